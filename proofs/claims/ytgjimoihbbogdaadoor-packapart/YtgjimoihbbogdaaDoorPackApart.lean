/- Proved: the law PackApart of package publicanlaw3 returns true for every two numbers of 64 bits, whatever memory it starts in, on every schedule; the table of package pack holds what the program's text lays (the card ties it to that text). -/
import Derived.Test.YtgjimoihbbogdaaDoorCards
import Derived.Test.YtgjimoihbbogdaaDoorTie
import Derived.Test.YtgjimoihbbogdaaDoorW9
import Derived.Deep.QuietTactic
import Derived.BigQuiet
namespace Go.Proofs.YtgjimoihbbogdaaDoor.packApart
open Go.ChangeMaps (open_string shut_string)
open Go.ChangeShapes Go.WideShapes Go.ChangeAt Go.RowKit
set_option linter.unusedVariables false

theorem bytes_ne {s t : ByteArray} (h : s ≠ t) : (s.toList == t.toList) = false := by
  rw [beq_eq_false_iff_ne]
  intro e
  apply h
  rw [ByteArray.toList_eq, ByteArray.toList_eq] at e
  obtain ⟨s⟩ := s
  obtain ⟨t⟩ := t
  congr 1
  exact Array.toList_inj.1 e
theorem str_ne {x y : List Int} (hx : Bys x) (hy : Bys y) (h : x ≠ y) : strOfNums x ≠ strOfNums y := fun e => h (by rw [← str_nums hx, ← str_nums hy, e])

set_option maxHeartbeats 4000000 in
theorem walk_same (w : World) (ht : Tab w) (a : Nat) (ha : a < 18446744073709551616) :
    Calls Tryd.prog 8 #[.int .u64 a, .int .u64 a] w fun e w' => e = .returned (.bool true) ∧ Below w.heap.size w w' := by
  have hb := ha
  have T : Hid (Tab w) := ht
  have L1 : Hid _ := enc_len10 ha
  have L2 : Hid _ := enc_len10 hb
  clear ht
  go_enter Tryd.func8, Tryd.ntmps8
  go_wp2_with fail
  refine (awake_any w T.out).mono ?_
  rintro e w1 ⟨rfl, b1⟩
  go_wp2_with fail
  refine (pU_any none 0 0 a [] w1 (By.empty w1) (by decide) ha).mono ?_
  rintro e w2 ⟨⟨v2, rfl, o2⟩, b2⟩
  rw [List.nil_append] at o2
  obtain ⟨a2, c2, rfl, y2, s2, hh2⟩ := o2.by
  have Y2 : Hid _ := y2
  have B2 : Hid _ := nextB b1 b2
  clear o2 y2 s2 b1 b2
  go_wp2_with fail
  refine (pU_any none 0 0 a [] w2 (By.empty w2) (by decide) hb).mono ?_
  rintro e w3 ⟨⟨v3, rfl, o3⟩, b3⟩
  rw [List.nil_append] at o3
  obtain ⟨a3, c3, rfl, y3, s3, hh3⟩ := o3.by
  have X2 : Hid _ := Y2.out.below b3
  have X3 : Hid _ := y3
  have B3 : Hid (Below w.heap.size w w3) := nextB B2.out b3
  clear o3 y3 s3 b3 Y2 B2
  have k2 := X2.out.str
  have k3 := X3.out.str
  generalize strOfNums (enc a) = s at *
  clear X2 X3 hh2 hh3
  go_wp2
  go_ret
  exact ⟨rfl, B3.out⟩

set_option maxHeartbeats 4000000 in
theorem walk_0 (w : World) (ht : Tab w) (a b : Nat) (ha : a < 18446744073709551616) (hb : b < 18446744073709551616) (hne : a ≠ b) (hc1 : (enc b).length < (enc a).length) (hc2 : b < a) :
    Calls Tryd.prog 8 #[.int .u64 a, .int .u64 b] w fun e w' => e = .returned (.bool true) ∧ Below w.heap.size w w' := by
  have q0 : ((a : Int) == (b : Int)) = false := beq_eq_false_iff_ne.2 (by omega)
  have NE : Hid _ := hne
  have P1 : Hid _ := enc_pos a
  have P2 : Hid _ := enc_pos b
  have MO : Hid (a ≤ b → (enc a).length ≤ (enc b).length) := enc_mono a b
  clear hne
  have T : Hid (Tab w) := ht
  have L1 : Hid _ := enc_len10 ha
  have L2 : Hid _ := enc_len10 hb
  clear ht
  go_enter Tryd.func8, Tryd.ntmps8
  go_wp2_with fail
  refine (awake_any w T.out).mono ?_
  rintro e w1 ⟨rfl, b1⟩
  go_wp2_with fail
  refine (pU_any none 0 0 a [] w1 (By.empty w1) (by decide) ha).mono ?_
  rintro e w2 ⟨⟨v2, rfl, o2⟩, b2⟩
  rw [List.nil_append] at o2
  obtain ⟨a2, c2, rfl, y2, s2, hh2⟩ := o2.by
  have Y2 : Hid _ := y2
  have B2 : Hid _ := nextB b1 b2
  clear o2 y2 s2 b1 b2
  go_wp2_with fail
  refine (pU_any none 0 0 b [] w2 (By.empty w2) (by decide) hb).mono ?_
  rintro e w3 ⟨⟨v3, rfl, o3⟩, b3⟩
  rw [List.nil_append] at o3
  obtain ⟨a3, c3, rfl, y3, s3, hh3⟩ := o3.by
  have X2 : Hid _ := Y2.out.below b3
  have X3 : Hid _ := y3
  have B3 : Hid (Below w.heap.size w w3) := nextB B2.out b3
  clear o3 y3 s3 b3 Y2 B2
  obtain ⟨g2, rfl⟩ : ∃ g, a2 = some ⟨g, 0, none⟩ := by
    rcases hh2 with rfl | h
    · have := X2.out.none_nil; have := P1.out; omega
    · exact h
  obtain ⟨g3, rfl⟩ : ∃ g, a3 = some ⟨g, 0, none⟩ := by
    rcases hh3 with rfl | h
    · have := X3.out.none_nil; have := P2.out; omega
    · exact h
  have f2 := X2.out.fits
  have f3 := X3.out.fits
  have m2 := X2.out.max
  have m3 := X3.out.max
  unfold maxLen at m2 m3
  have Z2 := X2.out.take (k := (enc b).length) (by omega)
  have Z3 := X3.out.take (k := (enc b).length) (by omega)
  have ne : strOfNums ((enc a).take (enc b).length) ≠ strOfNums ((enc b).take (enc b).length) := str_ne ((bys_enc a).take _) ((bys_enc b).take _) (fun e => NE.out (enc_apart a b (enc b).length (by omega) (by omega) (by omega) e))
  have k2 := fun k => (Z2.kept (w' := w3.drewN k) (fun _ _ _ => rfl)).str
  have k3 := fun k => (Z3.kept (w' := w3.drewN k) (fun _ _ _ => rfl)).str
  generalize strOfNums ((enc a).take (enc b).length) = s2 at *
  generalize strOfNums ((enc b).take (enc b).length) = s3 at *
  have sne := bytes_ne ne
  have SNE : Hid _ := ne
  clear ne
  have l10 := L1.out
  have l10' := L2.out
  generalize (enc a).length = n2 at *
  generalize (enc b).length = n3 at *
  have i2 : ((n3 : Nat) : Int) ≤ (c2 : Int) := by omega
  have i3 : ((n3 : Nat) : Int) ≤ (c3 : Int) := by omega
  have i0 : (0 : Int) ≤ ((n3 : Nat) : Int) := by omega
  have c1' : (n3 : Int) < (n2 : Int) := by omega
  have c2' : (b : Int) < (a : Int) := by omega
  clear X2 X3 hh2 hh3 Z2 Z3 P1 P2 MO NE L1 L2
  go_wp2
  go_quiet (fail)
  go_wp2
  go_ret
  exact ⟨rfl, ⟨B3.out.os, B3.out.tape, B3.out.output, B3.out.size, B3.out.block⟩⟩

set_option maxHeartbeats 4000000 in
theorem walk_1 (w : World) (ht : Tab w) (a b : Nat) (ha : a < 18446744073709551616) (hb : b < 18446744073709551616) (hne : a ≠ b) (hc1 : (enc b).length < (enc a).length) (hc2 : a ≤ b) :
    Calls Tryd.prog 8 #[.int .u64 a, .int .u64 b] w fun e w' => e = .returned (.bool true) ∧ Below w.heap.size w w' := by
  have q0 : ((a : Int) == (b : Int)) = false := beq_eq_false_iff_ne.2 (by omega)
  have NE : Hid _ := hne
  have P1 : Hid _ := enc_pos a
  have P2 : Hid _ := enc_pos b
  have MO : Hid (a ≤ b → (enc a).length ≤ (enc b).length) := enc_mono a b
  clear hne
  have T : Hid (Tab w) := ht
  have L1 : Hid _ := enc_len10 ha
  have L2 : Hid _ := enc_len10 hb
  clear ht
  go_enter Tryd.func8, Tryd.ntmps8
  go_wp2_with fail
  refine (awake_any w T.out).mono ?_
  rintro e w1 ⟨rfl, b1⟩
  go_wp2_with fail
  refine (pU_any none 0 0 a [] w1 (By.empty w1) (by decide) ha).mono ?_
  rintro e w2 ⟨⟨v2, rfl, o2⟩, b2⟩
  rw [List.nil_append] at o2
  obtain ⟨a2, c2, rfl, y2, s2, hh2⟩ := o2.by
  have Y2 : Hid _ := y2
  have B2 : Hid _ := nextB b1 b2
  clear o2 y2 s2 b1 b2
  go_wp2_with fail
  refine (pU_any none 0 0 b [] w2 (By.empty w2) (by decide) hb).mono ?_
  rintro e w3 ⟨⟨v3, rfl, o3⟩, b3⟩
  rw [List.nil_append] at o3
  obtain ⟨a3, c3, rfl, y3, s3, hh3⟩ := o3.by
  have X2 : Hid _ := Y2.out.below b3
  have X3 : Hid _ := y3
  have B3 : Hid (Below w.heap.size w w3) := nextB B2.out b3
  clear o3 y3 s3 b3 Y2 B2
  obtain ⟨g2, rfl⟩ : ∃ g, a2 = some ⟨g, 0, none⟩ := by
    rcases hh2 with rfl | h
    · have := X2.out.none_nil; have := P1.out; omega
    · exact h
  obtain ⟨g3, rfl⟩ : ∃ g, a3 = some ⟨g, 0, none⟩ := by
    rcases hh3 with rfl | h
    · have := X3.out.none_nil; have := P2.out; omega
    · exact h
  have f2 := X2.out.fits
  have f3 := X3.out.fits
  have m2 := X2.out.max
  have m3 := X3.out.max
  unfold maxLen at m2 m3
  have Z2 := X2.out.take (k := (enc b).length) (by omega)
  have Z3 := X3.out.take (k := (enc b).length) (by omega)
  have ne : strOfNums ((enc a).take (enc b).length) ≠ strOfNums ((enc b).take (enc b).length) := str_ne ((bys_enc a).take _) ((bys_enc b).take _) (fun e => NE.out (enc_apart a b (enc b).length (by omega) (by omega) (by omega) e))
  have k2 := fun k => (Z2.kept (w' := w3.drewN k) (fun _ _ _ => rfl)).str
  have k3 := fun k => (Z3.kept (w' := w3.drewN k) (fun _ _ _ => rfl)).str
  generalize strOfNums ((enc a).take (enc b).length) = s2 at *
  generalize strOfNums ((enc b).take (enc b).length) = s3 at *
  have sne := bytes_ne ne
  have SNE : Hid _ := ne
  clear ne
  have l10 := L1.out
  have l10' := L2.out
  have mo := MO.out hc2
  generalize (enc a).length = n2 at *
  generalize (enc b).length = n3 at *
  have i2 : ((n3 : Nat) : Int) ≤ (c2 : Int) := by omega
  have i3 : ((n3 : Nat) : Int) ≤ (c3 : Int) := by omega
  have i0 : (0 : Int) ≤ ((n3 : Nat) : Int) := by omega
  have c1' : (n3 : Int) < (n2 : Int) := by omega
  have c2' : decide ((b : Int) < (a : Int)) = false := by simp; omega
  have mo' : (n2 : Int) ≤ (n3 : Int) := by omega
  clear X2 X3 hh2 hh3 Z2 Z3 P1 P2 MO NE L1 L2
  go_wp2
  go_quiet (fail)
  go_wp2
  go_ret
  exact ⟨rfl, ⟨B3.out.os, B3.out.tape, B3.out.output, B3.out.size, B3.out.block⟩⟩

set_option maxHeartbeats 4000000 in
theorem walk_2 (w : World) (ht : Tab w) (a b : Nat) (ha : a < 18446744073709551616) (hb : b < 18446744073709551616) (hne : a ≠ b) (hc1 : (enc a).length ≤ (enc b).length) (hc2 : b < a) :
    Calls Tryd.prog 8 #[.int .u64 a, .int .u64 b] w fun e w' => e = .returned (.bool true) ∧ Below w.heap.size w w' := by
  have q0 : ((a : Int) == (b : Int)) = false := beq_eq_false_iff_ne.2 (by omega)
  have NE : Hid _ := hne
  have P1 : Hid _ := enc_pos a
  have P2 : Hid _ := enc_pos b
  have MO : Hid (a ≤ b → (enc a).length ≤ (enc b).length) := enc_mono a b
  clear hne
  have T : Hid (Tab w) := ht
  have L1 : Hid _ := enc_len10 ha
  have L2 : Hid _ := enc_len10 hb
  clear ht
  go_enter Tryd.func8, Tryd.ntmps8
  go_wp2_with fail
  refine (awake_any w T.out).mono ?_
  rintro e w1 ⟨rfl, b1⟩
  go_wp2_with fail
  refine (pU_any none 0 0 a [] w1 (By.empty w1) (by decide) ha).mono ?_
  rintro e w2 ⟨⟨v2, rfl, o2⟩, b2⟩
  rw [List.nil_append] at o2
  obtain ⟨a2, c2, rfl, y2, s2, hh2⟩ := o2.by
  have Y2 : Hid _ := y2
  have B2 : Hid _ := nextB b1 b2
  clear o2 y2 s2 b1 b2
  go_wp2_with fail
  refine (pU_any none 0 0 b [] w2 (By.empty w2) (by decide) hb).mono ?_
  rintro e w3 ⟨⟨v3, rfl, o3⟩, b3⟩
  rw [List.nil_append] at o3
  obtain ⟨a3, c3, rfl, y3, s3, hh3⟩ := o3.by
  have X2 : Hid _ := Y2.out.below b3
  have X3 : Hid _ := y3
  have B3 : Hid (Below w.heap.size w w3) := nextB B2.out b3
  clear o3 y3 s3 b3 Y2 B2
  obtain ⟨g2, rfl⟩ : ∃ g, a2 = some ⟨g, 0, none⟩ := by
    rcases hh2 with rfl | h
    · have := X2.out.none_nil; have := P1.out; omega
    · exact h
  obtain ⟨g3, rfl⟩ : ∃ g, a3 = some ⟨g, 0, none⟩ := by
    rcases hh3 with rfl | h
    · have := X3.out.none_nil; have := P2.out; omega
    · exact h
  have f2 := X2.out.fits
  have f3 := X3.out.fits
  have m2 := X2.out.max
  have m3 := X3.out.max
  unfold maxLen at m2 m3
  have Z2 := X2.out.take (k := (enc a).length) (by omega)
  have Z3 := X3.out.take (k := (enc a).length) (by omega)
  have ne : strOfNums ((enc a).take (enc a).length) ≠ strOfNums ((enc b).take (enc a).length) := str_ne ((bys_enc a).take _) ((bys_enc b).take _) (fun e => NE.out (enc_apart a b (enc a).length (by omega) (by omega) (by omega) e))
  have k2 := fun k => (Z2.kept (w' := w3.drewN k) (fun _ _ _ => rfl)).str
  have k3 := fun k => (Z3.kept (w' := w3.drewN k) (fun _ _ _ => rfl)).str
  generalize strOfNums ((enc a).take (enc a).length) = s2 at *
  generalize strOfNums ((enc b).take (enc a).length) = s3 at *
  have sne := bytes_ne ne
  have SNE : Hid _ := ne
  clear ne
  have l10 := L1.out
  have l10' := L2.out
  generalize (enc a).length = n2 at *
  generalize (enc b).length = n3 at *
  have i2 : ((n2 : Nat) : Int) ≤ (c2 : Int) := by omega
  have i3 : ((n2 : Nat) : Int) ≤ (c3 : Int) := by omega
  have i0 : (0 : Int) ≤ ((n2 : Nat) : Int) := by omega
  have c1' : ¬ (n3 : Int) < (n2 : Int) := by omega
  have c2' : (b : Int) < (a : Int) := by omega
  clear X2 X3 hh2 hh3 Z2 Z3 P1 P2 MO NE L1 L2
  go_wp2
  go_quiet (fail)
  go_wp2
  go_ret
  exact ⟨rfl, ⟨B3.out.os, B3.out.tape, B3.out.output, B3.out.size, B3.out.block⟩⟩

set_option maxHeartbeats 4000000 in
theorem walk_3 (w : World) (ht : Tab w) (a b : Nat) (ha : a < 18446744073709551616) (hb : b < 18446744073709551616) (hne : a ≠ b) (hc1 : (enc a).length ≤ (enc b).length) (hc2 : a ≤ b) :
    Calls Tryd.prog 8 #[.int .u64 a, .int .u64 b] w fun e w' => e = .returned (.bool true) ∧ Below w.heap.size w w' := by
  have q0 : ((a : Int) == (b : Int)) = false := beq_eq_false_iff_ne.2 (by omega)
  have NE : Hid _ := hne
  have P1 : Hid _ := enc_pos a
  have P2 : Hid _ := enc_pos b
  have MO : Hid (a ≤ b → (enc a).length ≤ (enc b).length) := enc_mono a b
  clear hne
  have T : Hid (Tab w) := ht
  have L1 : Hid _ := enc_len10 ha
  have L2 : Hid _ := enc_len10 hb
  clear ht
  go_enter Tryd.func8, Tryd.ntmps8
  go_wp2_with fail
  refine (awake_any w T.out).mono ?_
  rintro e w1 ⟨rfl, b1⟩
  go_wp2_with fail
  refine (pU_any none 0 0 a [] w1 (By.empty w1) (by decide) ha).mono ?_
  rintro e w2 ⟨⟨v2, rfl, o2⟩, b2⟩
  rw [List.nil_append] at o2
  obtain ⟨a2, c2, rfl, y2, s2, hh2⟩ := o2.by
  have Y2 : Hid _ := y2
  have B2 : Hid _ := nextB b1 b2
  clear o2 y2 s2 b1 b2
  go_wp2_with fail
  refine (pU_any none 0 0 b [] w2 (By.empty w2) (by decide) hb).mono ?_
  rintro e w3 ⟨⟨v3, rfl, o3⟩, b3⟩
  rw [List.nil_append] at o3
  obtain ⟨a3, c3, rfl, y3, s3, hh3⟩ := o3.by
  have X2 : Hid _ := Y2.out.below b3
  have X3 : Hid _ := y3
  have B3 : Hid (Below w.heap.size w w3) := nextB B2.out b3
  clear o3 y3 s3 b3 Y2 B2
  obtain ⟨g2, rfl⟩ : ∃ g, a2 = some ⟨g, 0, none⟩ := by
    rcases hh2 with rfl | h
    · have := X2.out.none_nil; have := P1.out; omega
    · exact h
  obtain ⟨g3, rfl⟩ : ∃ g, a3 = some ⟨g, 0, none⟩ := by
    rcases hh3 with rfl | h
    · have := X3.out.none_nil; have := P2.out; omega
    · exact h
  have f2 := X2.out.fits
  have f3 := X3.out.fits
  have m2 := X2.out.max
  have m3 := X3.out.max
  unfold maxLen at m2 m3
  have Z2 := X2.out.take (k := (enc a).length) (by omega)
  have Z3 := X3.out.take (k := (enc a).length) (by omega)
  have ne : strOfNums ((enc a).take (enc a).length) ≠ strOfNums ((enc b).take (enc a).length) := str_ne ((bys_enc a).take _) ((bys_enc b).take _) (fun e => NE.out (enc_apart a b (enc a).length (by omega) (by omega) (by omega) e))
  have k2 := fun k => (Z2.kept (w' := w3.drewN k) (fun _ _ _ => rfl)).str
  have k3 := fun k => (Z3.kept (w' := w3.drewN k) (fun _ _ _ => rfl)).str
  generalize strOfNums ((enc a).take (enc a).length) = s2 at *
  generalize strOfNums ((enc b).take (enc a).length) = s3 at *
  have sne := bytes_ne ne
  have SNE : Hid _ := ne
  clear ne
  have l10 := L1.out
  have l10' := L2.out
  have mo := MO.out hc2
  generalize (enc a).length = n2 at *
  generalize (enc b).length = n3 at *
  have i2 : ((n2 : Nat) : Int) ≤ (c2 : Int) := by omega
  have i3 : ((n2 : Nat) : Int) ≤ (c3 : Int) := by omega
  have i0 : (0 : Int) ≤ ((n2 : Nat) : Int) := by omega
  have c1' : ¬ (n3 : Int) < (n2 : Int) := by omega
  have c2' : decide ((b : Int) < (a : Int)) = false := by simp; omega
  have mo' : (n2 : Int) ≤ (n3 : Int) := by omega
  clear X2 X3 hh2 hh3 Z2 Z3 P1 P2 MO NE L1 L2
  go_wp2
  go_quiet (fail)
  go_wp2
  go_ret
  exact ⟨rfl, ⟨B3.out.os, B3.out.tape, B3.out.output, B3.out.size, B3.out.block⟩⟩

theorem walk (w : World) (ht : Tab w) (a : Int) (wa : (Lit.int .u64 a).wf = true) (b : Int) (wb : (Lit.int .u64 b).wf = true) :
    Calls Tryd.prog 8 #[.int .u64 a, .int .u64 b] w fun e w' => e = .returned (.bool true) ∧ Below w.heap.size w w' := by
  have ba := bounds_u64 wa
  have bb := bounds_u64 wb
  obtain ⟨a, rfl⟩ := Int.eq_ofNat_of_zero_le ba.1
  obtain ⟨b, rfl⟩ := Int.eq_ofNat_of_zero_le bb.1
  have ha : a < 18446744073709551616 := by omega
  have hb : b < 18446744073709551616 := by omega
  by_cases e : a = b
  · subst e; exact walk_same w ht a ha
  · rcases Nat.lt_or_ge (enc b).length (enc a).length with c1 | c1 <;> rcases Nat.lt_or_ge b a with c2 | c2
    · exact walk_0 w ht a b ha hb e c1 c2
    · exact walk_1 w ht a b ha hb e c1 c2
    · exact walk_2 w ht a b ha hb e c1 c2
    · exact walk_3 w ht a b ha hb e c1 c2


theorem contract (H : Type) (enc : TypeId × Value → H) (W : World) (base : Nat) (args : Array Value) (ds gs : List (DataW H)) (before : List MemPlace)
    (hval : ∀ (j : Nat) t v, Tryd.f8.params[j]? = some t → args[j]? = some v → Value.okWide Tryd.prog W .any base t v)
    (hW : DataW.Whole enc Tryd.prog Tryd.f8.params.toList Rows.packApartSpec.vars false W args.toList ds gs before) (hL : laidMetH Tryd.prog Rows.packApartRow.laid W) :
    Calls Tryd.prog 8 args W fun e W' => ∃ v, e = .returned v ∧ Rows.packApartSpec.post enc Tryd.prog Tryd.f8 false true false false W args v W' := by
  have hW' := hW
  obtain ⟨p, q, hA0, hV, rfl, hfz, hnd⟩ := hW
  have hA : DataW.TrodAll enc Tryd.prog W 0 (fun _ => true) true Tryd.f8.params.toList args.toList ds p := hA0
  have hT : Tab W := tab_of hL
  rw [Tryd.params8] at hA hval
  obtain ⟨v0, vs0, d0, ds0, p0, q0, hargs, rfl, rfl, h0, r0⟩ := trodAll_cons hA
  obtain ⟨v1, vs1, d1, ds1, p1, q1, rfl, rfl, rfl, h1, r1⟩ := trodAll_cons r0
  obtain ⟨rfl, rfl, rfl⟩ := trodAll_nil r1
  obtain rfl : args = #[v0, v1] := by cases args; simp_all
  obtain ⟨rfl, rfl⟩ := trodVars_none hV
  obtain ⟨a0, rfl, rfl, rfl, w0⟩ := open_int Tryd.underlying26 (hval 0 26 v0 rfl rfl) h0
  obtain ⟨a1, rfl, rfl, rfl, w1⟩ := open_int Tryd.underlying26 (hval 1 26 v1 rfl rfl) h1
  clear hA0
  refine (walk W hT a0 w0 a1 w1).mono fun e W' ⟨he, bel⟩ => ?_
  subst he
  exact ⟨_, rfl, _, _, _, [], _, [], hW', trodAll_mk1 (shut_bool Tryd.underlying4 _), (trodAll_cons_mk (shut_int Tryd.underlying26 w0) (trodAll_cons_mk (shut_int Tryd.underlying26 w1) trodAll_mk0)), rfl, bel.frame _, fun h => by cases h⟩

/-- A world for the witness: the table laid. -/
noncomputable def laidWorld (os : Os) : World :=
  { World.holding Tryd.prog os ⟨#[], #[], []⟩ with heap := (World.holding Tryd.prog os ⟨#[], #[], []⟩).heap.modify 0 fun
      | .cells _ t frozen => .cells (tabL.map (Value.int .u32)).toArray t frozen
      | o => o }
theorem laid_met (os : Os) : laidMet Tryd.prog Rows.packApartRow.laid ((laidWorld os).forCall (fun _ _ => 0) ⟨#[], #[.int .u64 0, .int .u64 0], []⟩).memory :=
  laidMet_of_run' 8 (by kernel_rfl) (by kernel_rfl)
theorem reads (os : Os) {H : Type} (enc : TypeId × Value → H) : ∃ places, DataW.whole enc Tryd.prog ((laidWorld os).forCall (fun _ _ => 0) ⟨#[], #[.int .u64 0, .int .u64 0], []⟩).memory Tryd.f8.params.toList Rows.packApartSpec.vars false (#[.int .u64 0, .int .u64 0] : Array Value).toList 8 = some ([.lit (.int .u64 0), .lit (.int .u64 0)], [], places) :=
  ⟨[], by kernel_rfl⟩

set_option maxRecDepth 100000 in
theorem lifted (os : Os) (started : os.Started) (H : Type) (enc : TypeId × Value → H) (F : Stop.Interp) :
    ReturnsInHanded {} Tryd.checked os 8 .any ((OpenSpec.ofChange Rows.packApartSpec).preRow enc Tryd.prog Tryd.f8 Rows.packApartRow.domain false Rows.packApartRow.laid) (((OpenSpec.ofChange Rows.packApartSpec).at F).post enc Tryd.prog Tryd.f8 false true false false) := by
  obtain ⟨places, hx⟩ := reads os enc
  refine returnsInHanded_of_row (C := Tryd.checked) (s := OpenSpec.ofChange Rows.packApartSpec) own started (by kernel_rfl) Tryd.func8
    (witness_row_at (enc := enc) (C := Tryd.checked) false (laidWorld os) #[.int .u64 0, .int .u64 0] rfl (by kernel_rfl) (by kernel_rfl) (by kernel_rfl)
      (OpenSpec.preRow_of_cond 8 hx (by kernel_rfl) (fun k hk => by cases hk) (by kernel_rfl) (laid_met os))) ?_
  intro W base args ds gs before hval hW _ _ _ hL _ _
  exact contract H enc W base args ds gs before hval hW hL

theorem said : Rows.PackApartSaid :=
  OpenClaim.holds_of_cond 8 Tryd.f8 rfl rfl rfl rfl rfl rfl rfl ⟨rfl, rfl, rfl, rfl, rfl⟩ rfl rfl rfl rfl rfl (by kernel_rfl) Tryd.func8 (by kernel_rfl)
    (of_decide_eq_true (by kernel_rfl)) (by unfold Func.isWrapper; first | (rw [if_pos (by decide +kernel)]; kernel_rfl) | (rw [if_neg (by decide +kernel)]; exact ⟨rfl, rfl⟩))
    (fun os started H enc _ F => by rw [OpenClaim.pre_eq_preRow]; exact lifted os started H enc F)

theorem plain (f : FuncId) (fn : Func) (hf : Tryd.pinned.checked.prog.funcNamed "publican/publicanlaw3.PackApart" = some f) (hfn : Tryd.pinned.checked.prog.funcs[f]? = some fn) :
    false = Tryd.pinned.checked.prog.looks [] ∧ ∀ (j : Nat) t, fn.params[j]? = some t → Tryd.pinned.checked.prog.wantsStandIn t = false := by
  obtain rfl : f = 8 := Option.some.inj ((show Tryd.prog.funcNamed "publican/publicanlaw3.PackApart" = some 8 by kernel_rfl).symm.trans hf) |>.symm
  obtain rfl : fn = Tryd.f8 := (Option.some.inj (Tryd.func8.symm.trans hfn)).symm
  refine ⟨by kernel_rfl, fun j t ht => ?_⟩
  rw [Tryd.params8] at ht
  obtain rfl : t = 26 := by simpa using Array.mem_of_getElem? ht
  exact (show Tryd.prog.wantsStandIn 26 = false by kernel_rfl)

theorem card : Rows.PackApartCardSaid :=
  Claim7.holds_tied_plain_at .later [] _ _ _ _ said (fun _ h => by cases h) (by kernel_rfl) (fun _ h => by cases h) packApart_row_tie rfl ⟨rfl, rfl⟩ (by kernel_rfl) rfl plain (by kernel_rfl)

end Go.Proofs.YtgjimoihbbogdaaDoor.packApart
namespace Go.Proofs.YtgjimoihbbogdaaDoor

theorem PackApart_holds : Rows.PackApartCardSaid := packApart.card

end Go.Proofs.YtgjimoihbbogdaaDoor
