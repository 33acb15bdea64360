/- The walks over package cal, on: Read. -/
import Derived.Test.YtobolipjgkabhaaDoorW5
import Derived.Deep.DeepCutAuto
import Derived.Deep.RegionWith
namespace Go.Proofs.YtobolipjgkabhaaDoor
open Go.RowKit
set_option linter.unusedVariables false
set_option linter.unusedSimpArgs false

theorem nextB {w u v : World} (h : Below w.heap.size w u) (hb : Below u.heap.size u v) : Below w.heap.size w v := h.trans (hb.mono h.size)
theorem below_drewN (w : World) (x : Nat) : Below w.heap.size w (w.drewN x) := by
  induction x with
  | zero => exact Below.refl _ _
  | succ x ih => exact ih.drew

theorem fit_digs {c0 c1 c2 c3 c4 c5 c6 c7 c8 c9 : UInt8} (h : fitB c0 c1 c2 c3 c4 c5 c6 c7 c8 c9 = true) : isDig c0 = true ∧ isDig c1 = true ∧ isDig c2 = true ∧ isDig c3 = true ∧ isDig c5 = true ∧ isDig c6 = true ∧ isDig c8 = true ∧ isDig c9 = true ∧ (c4.toNat : Int) = 45 ∧ (c7.toNat : Int) = 45 := by
  unfold fitB at h
  simp only [Bool.and_eq_true, decide_eq_true_eq] at h
  obtain ⟨⟨⟨⟨⟨⟨⟨⟨⟨h0, h1⟩, h2⟩, h3⟩, h4⟩, h5⟩, h6⟩, h7⟩, h8⟩, h9⟩ := h
  exact ⟨h0, h1, h2, h3, h5, h6, h8, h9, h4, h7⟩

set_option maxHeartbeats 1000000 in
theorem read_other (s : ByteArray) (w : World) (h : s.size ≠ 10) (hs : s.size < 9223372036854775808) :
    Calls Tryd.prog 43 #[.string s] w fun e w' => e = .returned (.tuple #[.int .i64 0, .bool false]) ∧ w = w' := by
  go_enter Tryd.func43, Tryd.ntmps43
  go_wp2_with (go_at_call 57; refine (fits_other _ _ h hs).mono ?_; rintro e w' ⟨rfl, rfl⟩)
  go_ret2
  exact ⟨rfl, rfl⟩

set_option maxHeartbeats 1000000 in
theorem read_no (c0 c1 c2 c3 c4 c5 c6 c7 c8 c9 : UInt8) (w : World) (h : fitB c0 c1 c2 c3 c4 c5 c6 c7 c8 c9 = false) :
    Calls Tryd.prog 43 #[.string ⟨#[c0, c1, c2, c3, c4, c5, c6, c7, c8, c9]⟩] w fun e w' => e = .returned (.tuple #[.int .i64 0, .bool false]) ∧ Below w.heap.size w w' := by
  go_enter Tryd.func43, Tryd.ntmps43
  go_wp2_with (go_at_call 57; refine (fits_10 _ _ _ _ _ _ _ _ _ _ _).mono ?_; rintro e w' ⟨rfl, x, rfl⟩; rw [h])
  go_ret2
  exact ⟨rfl, below_drewN _ _⟩

theorem numA {c0 c1 c2 c3 c4 c5 c6 c7 c8 c9 : UInt8} (w : World) (h : fitB c0 c1 c2 c3 c4 c5 c6 c7 c8 c9 = true) : Calls Tryd.prog 59 #[.string (ByteArray.extract ⟨#[c0, c1, c2, c3, c4, c5, c6, c7, c8, c9]⟩ 0 4)] w fun e w' => e = .returned (.int .i64 (dg4 c0 c1 c2 c3)) ∧ Below w.heap.size w w' := by
  obtain ⟨h0, h1, h2, h3, h5, h6, h8, h9, h4, h7⟩ := fit_digs h
  exact num_4 c0 c1 c2 c3 w h0 h1 h2 h3
theorem numB {c0 c1 c2 c3 c4 c5 c6 c7 c8 c9 : UInt8} (w : World) (h : fitB c0 c1 c2 c3 c4 c5 c6 c7 c8 c9 = true) : Calls Tryd.prog 59 #[.string (ByteArray.extract ⟨#[c0, c1, c2, c3, c4, c5, c6, c7, c8, c9]⟩ 5 7)] w fun e w' => e = .returned (.int .i64 (dg2 c5 c6)) ∧ Below w.heap.size w w' := by
  obtain ⟨h0, h1, h2, h3, h5, h6, h8, h9, h4, h7⟩ := fit_digs h
  exact num_2 c5 c6 w h5 h6
theorem numC {c0 c1 c2 c3 c4 c5 c6 c7 c8 c9 : UInt8} (w : World) (h : fitB c0 c1 c2 c3 c4 c5 c6 c7 c8 c9 = true) : Calls Tryd.prog 59 #[.string (ByteArray.extract ⟨#[c0, c1, c2, c3, c4, c5, c6, c7, c8, c9]⟩ 8 10)] w fun e w' => e = .returned (.int .i64 (dg2 c8 c9)) ∧ Below w.heap.size w w' := by
  obtain ⟨h0, h1, h2, h3, h5, h6, h8, h9, h4, h7⟩ := fit_digs h
  exact num_2 c8 c9 w h8 h9
theorem dg4_bd {a b c d : UInt8} : I64 (dg4 a b c d) := by
  have := a.toNat_lt; have := b.toNat_lt; have := c.toNat_lt; have := d.toNat_lt
  unfold I64 dg4 dig; omega

set_option maxHeartbeats 4000000 in
theorem read_gen (s F G H : ByteArray) (a b c : Int) (w : World) (h1 : s.extract 0 4 = F) (h2 : s.extract 5 7 = G) (h3 : s.extract 8 10 = H) (hsz : s.size = 10) (ha : I64 a)
    (kf : ∀ w, Calls Tryd.prog 57 #[.string s] w fun e w' => e = .returned (.bool true) ∧ ∃ x, w' = w.drewN x)
    (k1 : ∀ w, Calls Tryd.prog 59 #[.string F] w fun e w' => e = .returned (.int .i64 a) ∧ Below w.heap.size w w')
    (k2 : ∀ w, Calls Tryd.prog 59 #[.string G] w fun e w' => e = .returned (.int .i64 b) ∧ Below w.heap.size w w')
    (k3 : ∀ w, Calls Tryd.prog 59 #[.string H] w fun e w' => e = .returned (.int .i64 c) ∧ Below w.heap.size w w') :
    Calls Tryd.prog 43 #[.string s] w fun e w' => e = .returned (.tuple #[.int .i64 (dayN a b c), .bool (dateB a b c)]) ∧ Below w.heap.size w w' := by
  have K1 : Hid _ := k1
  have K2 : Hid _ := k2
  have K3 : Hid _ := k3
  have KF : Hid _ := kf
  clear k1 k2 k3 kf
  go_enter Tryd.func43, Tryd.ntmps43
  go_upto_region 3 with (go_at_call 57; refine (KF.out _).mono ?_; rintro e w' ⟨rfl, x, rfl⟩)
  have S0 := below_drewN w x
  generalize w.drewN x = w0 at *
  have S1 := S0.drew
  go_region_held3 (Below w.heap.size w) (first | with_reducible assumption) (first | (go_at_call 59; with_reducible refine Calls.mono (K1.out _) ?_; rintro e w5 ⟨rfl, hb5⟩; have S5 := nextB (w := w) (by assumption) hb5) | (go_at_call 59; with_reducible refine Calls.mono (K2.out _) ?_; rintro e w6 ⟨rfl, hb6⟩; have S6 := nextB (w := w) (by assumption) hb6) | (go_at_call 59; with_reducible refine Calls.mono (K3.out _) ?_; rintro e w7 ⟨rfl, hb7⟩; have S7 := nextB (w := w) (by assumption) hb7) | (go_at_call 58; refine (of_any _ _ _ _ ha).mono ?_; rintro e w8 ⟨rfl, rfl⟩))
  all_goals go_wp2
  all_goals go_ret2
  all_goals exact ⟨rfl, by assumption⟩

theorem read_yes (c0 c1 c2 c3 c4 c5 c6 c7 c8 c9 : UInt8) (w : World) (h : fitB c0 c1 c2 c3 c4 c5 c6 c7 c8 c9 = true) :
    Calls Tryd.prog 43 #[.string ⟨#[c0, c1, c2, c3, c4, c5, c6, c7, c8, c9]⟩] w fun e w' => e = .returned (.tuple #[.int .i64 (dayN (dg4 c0 c1 c2 c3) (dg2 c5 c6) (dg2 c8 c9)), .bool (dateB (dg4 c0 c1 c2 c3) (dg2 c5 c6) (dg2 c8 c9))]) ∧ Below w.heap.size w w' :=
  read_gen _ _ _ _ _ _ _ w rfl rfl rfl rfl dg4_bd (fun w => by have := fits_10 c0 c1 c2 c3 c4 c5 c6 c7 c8 c9 w; rw [h] at this; exact this) (fun w => numA w h) (fun w => numB w h) (fun w => numC w h)
end Go.Proofs.YtobolipjgkabhaaDoor
