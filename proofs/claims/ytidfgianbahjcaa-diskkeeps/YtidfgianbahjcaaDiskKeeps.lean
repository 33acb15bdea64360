/- Proved: the law DiskKeeps of package publicanlaw4 returns true for every row of bytes and any two numbers, whatever memory it starts in, on every schedule; no condition. -/
import Derived.Test.YtidfgianbahjcaaE2
namespace Go.Proofs.Ytidfgianbahjcaa.diskKeeps
open Go.ChangeShapes Go.WideShapes Go.ChangeAt Go.RowKit
set_option linter.unusedVariables false

set_option maxHeartbeats 2000000 in
theorem walk_long (w : World) (a : Option Addr) (m c : Nat) (n how : Int) (h : 64 < m) : Calls Try.prog 5 #[.slice a m c, .int .i64 n, .int .i64 how] w fun e w' => e = .returned (.bool true) ∧ Below w.heap.size w w' := by
  have h' : (64 : Int) < (m : Int) := by omega
  go_enter Try.func5, Try.ntmps5
  go_wp2_with (go_at_call 7; refine (awake_any w).mono ?_; rintro e w1 ⟨rfl, b1⟩)
  go_ret
  exact ⟨rfl, b1⟩
set_option maxHeartbeats 2000000 in
theorem walk_low (w : World) (a : Option Addr) (m c : Nat) (n how : Int) (h : m ≤ 64) (h1 : n < 1) : Calls Try.prog 5 #[.slice a m c, .int .i64 n, .int .i64 how] w fun e w' => e = .returned (.bool true) ∧ Below w.heap.size w w' := by
  have h' : ¬ (64 : Int) < (m : Int) := by omega
  go_enter Try.func5, Try.ntmps5
  go_wp2_with (go_at_call 7; refine (awake_any w).mono ?_; rintro e w1 ⟨rfl, b1⟩)
  go_ret
  exact ⟨rfl, b1⟩
set_option maxHeartbeats 2000000 in
theorem walk_high (w : World) (a : Option Addr) (m c : Nat) (n how : Int) (h : m ≤ 64) (h1 : 8 < n) : Calls Try.prog 5 #[.slice a m c, .int .i64 n, .int .i64 how] w fun e w' => e = .returned (.bool true) ∧ Below w.heap.size w w' := by
  have h' : ¬ (64 : Int) < (m : Int) := by omega
  have h1' : ¬ n < 1 := by omega
  go_enter Try.func5, Try.ntmps5
  go_wp2_with (go_at_call 7; refine (awake_any w).mono ?_; rintro e w1 ⟨rfl, b1⟩)
  go_ret
  exact ⟨rfl, b1⟩

theorem By.setOther {w : World} {a : Option Addr} {n cap g o : Nat} {bs : List Int} {v : Value} (h : By w a n cap bs) (hne : 0 < n → ∀ x, a = some x → x.block ≠ g) : By (w.setCell ⟨g, o, none⟩ v) a n cap bs :=
  h.kept fun k x hx => Below.heap_setCell _ _ _ _ (hne k x hx)
theorem pad_both {b : List Int} (hb : b.length ≤ 64) (hy : Bys b) : (pad b).length = 64 ∧ Bys (pad b) := ⟨pad_len hb, pad_ok hy⟩
theorem zero_both : zero64.length = 64 ∧ Bys zero64 := ⟨rfl, zero_ok⟩

/-- All that a round of the second loop knows of its worlds, l what the sector holds. -/
structure Rnd (w wr w2 : World) (p q : Nat) (s : St) (C : List Value) (x : ByteArray) (v : Int) : Prop where
  t2 : InvD w p q 8 s w2
  size : w2.heap.size = wr.heap.size + 1
  str1 : (convert 27 9 (.slice (some ⟨wr.heap.size, 0, none⟩) 64 64)).run Try.prog (w2.alloc (.cells C.toArray 5)) = .ok (.string x) (w2.alloc (.cells C.toArray 5))
  str2 : (convert 27 9 (.slice (some ⟨w2.heap.size, 0, none⟩) 64 64)).run Try.prog (w2.alloc (.cells C.toArray 5)) = .ok (.string x) (w2.alloc (.cells C.toArray 5))
  cell : (w2.alloc (.cells C.toArray 5)).cell? ⟨wr.heap.size, 0, none⟩ = some (.int .u8 v)
  fz : (w2.alloc (.cells C.toArray 5)).frozen? ⟨wr.heap.size, 0, none⟩ = false
  t3 : ∀ u, InvD w p q 8 s ((w2.alloc (.cells C.toArray 5)).setCell ⟨wr.heap.size, 0, none⟩ u)
  str4 : ∀ u w4, ((w2.alloc (.cells C.toArray 5)).setCell ⟨wr.heap.size, 0, none⟩ u).alloc (.cells C.toArray 5) = w4 →
    InvD w p q 8 s w4 ∧ (convert 27 9 (.slice (some ⟨w2.heap.size + 1, 0, none⟩) 64 64)).run Try.prog w4 = .ok (.string x) w4 ∧ (convert 27 9 (.slice (some ⟨w2.heap.size, 0, none⟩) 64 64)).run Try.prog w4 = .ok (.string x) w4
theorem rnd {w wr w2 : World} {p q : Nat} {s : St} {l : List Int} (T : InvD w p q 8 s wr) (hw : wr.alloc (.cells (vals l).toArray 5) = w2) (hl : l.length = 64 ∧ Bys l) : Rnd w wr w2 p q s (vals l) (strOfNums l) (l.getD 0 0) := by
  obtain ⟨t2, y2, f2, k2⟩ := read_facts T hw hl
  have hp := T.d.ltp
  have hq := T.d.ltq
  have hb := T.b.size
  have y3 : By (w2.alloc (.cells (vals l).toArray 5)) (some ⟨w2.heap.size, 0, none⟩) 64 64 l := by
    have := by_const w2 l hl.2 (by omega) (0, 0) 5
    rw [hl.1] at this; exact this
  have y2' := y2.below (allocB w2 (.cells (vals l).toArray 5))
  have t2' : InvD w p q 8 s (w2.alloc (.cells (vals l).toArray 5)) := t2.below (allocB _ _)
  have t3 : ∀ u, InvD w p q 8 s ((w2.alloc (.cells (vals l).toArray 5)).setCell ⟨wr.heap.size, 0, none⟩ u) := fun u => t2'.set (by omega) (by omega) hb
  refine ⟨t2, k2, y2'.str, y3.str, ?_, ?_, t3, fun u w4 h4 => ?_⟩
  · obtain ⟨g, o, h1, h2⟩ := y2'.cell
    have e := h1 (by decide)
    simp at e
    obtain ⟨rfl, rfl⟩ := e
    exact h2 0 (by decide)
  · rw [(allocB w2 _).frozen (p := ⟨wr.heap.size, 0, none⟩) (by show wr.heap.size < w2.heap.size; omega)]; exact f2
  · obtain ⟨t4, y4, -, -⟩ := read_facts (t3 u) h4 hl
    have e : ((w2.alloc (.cells (vals l).toArray 5)).setCell ⟨wr.heap.size, 0, none⟩ u).heap.size = w2.heap.size + 1 := by simp
    rw [e] at y4
    refine ⟨t4, y4.str, ?_⟩
    have y5 := (By.setOther (g := wr.heap.size) (o := 0) (v := u) y3 (fun _ x hx => by simp at hx; subst hx; show w2.heap.size ≠ wr.heap.size; omega)).below (allocB _ (.cells (vals l).toArray 5))
    rw [h4] at y5
    exact y5.str

set_option maxRecDepth 100000 in
set_option maxHeartbeats 8000000 in
theorem walk_main (w : World) (a : Option Addr) (m c : Nat) (b : List Int) (hy : By w a m c b) (N : Nat) (how : Int) (h : m ≤ 64) (h1 : 1 ≤ N) (h2 : N ≤ 8) : Calls Try.prog 5 #[.slice a m c, .int .i64 (N : Nat), .int .i64 how] w fun e w' => e = .returned (.bool true) ∧ Below w.heap.size w w' := by
  have Y : Hid _ := hy
  have hbl : b.length ≤ 64 := by have := hy.len; omega
  have hby : Hid _ := hy.ok
  have e1 : ¬ (64 : Int) < (m : Int) := by omega
  have e2 : ¬ (N : Int) < 1 := by omega
  have e3 : ¬ (8 : Int) < (N : Int) := by omega
  have LM : Hid (b.length = m) := hy.len
  clear hy
  go_enter Try.func5, Try.ntmps5
  go_wp2_with fail
  refine (awake_any w).mono ?_
  rintro e w1 ⟨rfl, b1⟩
  have B1 : Hid _ := b1
  clear b1
  go_wp2_with fail
  refine (New_yes 8 w1 (by decide) (by decide)).mono ?_
  rintro e w2 ⟨rfl, d2, b2⟩
  have T2 : Hid _ := InvD.new B1.out d2 b2 (by omega) (Nat.le_refl _)
  clear d2 b2 B1
  generalize w1.heap.size + 1 = p at *
  generalize w1.heap.size = q at *
  go_wp2_with fail
  refine (Cut_any p q 8 fresh N how w2 T2.out.d (by omega)).mono ?_
  rintro e w3 ⟨rfl, d3, g3⟩
  rw [kst_zero N (odd how) b h1] at d3
  have T3 : Hid _ := T2.out.gr d3 g3
  clear d3 g3 T2
  go_wp2_with fail
  go_loopg [9] 8 (fun g iv wr => ∃ k : Nat, k ≤ 8 ∧ g = 8 - k ∧ iv = .int .i64 k ∧ Hid (InvD w p q 8 (kst N (odd how) b k) wr))
  case atStart => exact ⟨0, by omega, rfl, rfl, T3.out⟩
  case round =>
    obtain ⟨k, hk, rfl, rfl, T⟩ := hrel
    by_cases qk : k < 8
    · have qk' : (k : Int) < 8 := by omega
      rcases Nat.lt_trichotomy (k + 1) N with kc | kc | kc
      · have kk : (k : Int) < (N : Int) - 1 := by omega
        have X : Hid _ := kst_well N (odd how) b k hbl qk kc
        go_wp2_with (go_at_call 10; refine Calls.mono (Write_is (x := 0) (s' := kst N (odd how) b (k + 1)) T.out.d (Y.out.below T.out.b) (T.out.apart Y.out) (kst_writes N (odd how) b k hk) X.out.1 X.out.2) ?_; rintro e w2 ⟨rfl, d2, g2⟩)
        go_roundg (8 - (k + 1))
        case measure => omega
        case rel => exact ⟨k + 1, by omega, rfl, by go_num, T.out.gr d2 g2⟩
      · have kk : ¬ (k : Int) < (N : Int) - 1 := by omega
        have X : Hid _ := kst_cut N (odd how) b k hbl qk kc
        go_wp2_with (go_at_call 10; refine Calls.mono (Write_is (x := 4) (s' := kst N (odd how) b (k + 1)) T.out.d (Y.out.below T.out.b) (T.out.apart Y.out) (kst_writes N (odd how) b k hk) X.out.1 X.out.2) ?_; rintro e w2 ⟨rfl, d2, g2⟩)
        go_roundg (8 - (k + 1))
        case measure => omega
        case rel => exact ⟨k + 1, by omega, rfl, by go_num, T.out.gr d2 g2⟩
      · have kk : ¬ (k : Int) < (N : Int) - 1 := by omega
        have X : Hid _ := kst_off N (odd how) b k hbl qk (by omega)
        go_wp2_with (go_at_call 10; refine Calls.mono (Write_is (x := 4) (s' := kst N (odd how) b (k + 1)) T.out.d (Y.out.below T.out.b) (T.out.apart Y.out) (kst_writes N (odd how) b k hk) X.out.1 X.out.2) ?_; rintro e w2 ⟨rfl, d2, g2⟩)
        go_roundg (8 - (k + 1))
        case measure => omega
        case rel => exact ⟨k + 1, by omega, rfl, by go_num, T.out.gr d2 g2⟩
    · obtain rfl : k = 8 := by omega
      go_wp2_with (go_at_call 15; refine Calls.mono (On_any p q 8 (kst N (odd how) b 8) wr T.out.d (by show (1 : Nat) ≤ 1000000; omega)) ?_; rintro e w4 ⟨rfl, d4, g4⟩; have T4 : Hid _ := T.out.gr d4 g4)
      clear d4 g4 T
      go_loopg [11] 8 (fun g iv wr => ∃ k : Nat, k ≤ 8 ∧ g = 8 - k ∧ iv = .int .i64 k ∧ Hid (InvD w p q 8 (kst N (odd how) b 8).onAgain wr))
      case atStart => exact ⟨0, by omega, rfl, rfl, T4.out⟩
      case round =>
        obtain ⟨k, hk', rfl, rfl, T⟩ := hrel
        by_cases qk : k < 8
        · have qk' : (k : Int) < 8 := by omega
          rcases Nat.lt_trichotomy (k + 1) N with kc | kc | kc
          · have kk : (k : Int) < (N : Int) - 1 := by omega
            have SE : Hid ((kst N (odd how) b 8).onAgain.sec k = (pad b)) := kst_yes qk (Or.inl kc)
            go_wp2_with fail
            refine Calls.mono (Read_yes p q 8 (kst N (odd how) b 8).onAgain k wr T.out.d qk rfl) ?_
            rintro e w2 ⟨rfl, hw2⟩
            rw [SE.out] at hw2
            have R : Hid _ := rnd T.out hw2 (pad_both hbl hby.out)
            have mk : (Instr.makeSlice 27 (.int .i64 64) (.int .i64 64)).run Try.prog w2 = .ok (.slice (some ⟨w2.heap.size, 0, none⟩) 64 64) (w2.alloc (.cells (vals zero64).toArray 5)) := make_z w2 64 (by decide)
            have cp := copy_new w2 5 3 a m c b (Y.out.below R.out.t2.b) h
            have s1 := R.out.str1
            have s2 := R.out.str2
            have c1 := R.out.cell
            have f1 := R.out.fz
            generalize hC : vals (pad b) = C at *
            have HC : Hid (vals (pad b) = C) := hC
            generalize strOfNums (pad b) = x at *
            generalize (pad b).getD 0 0 = v at *
            clear hC hw2
            generalize vals zero64 = Z at *
            go_wp2_with fail
            refine Calls.mono (Read_yes p q 8 (kst N (odd how) b 8).onAgain k _ (R.out.t3 _).d qk rfl) ?_
            rintro e w4 ⟨rfl, hw4⟩
            rw [SE.out, HC.out] at hw4
            obtain ⟨t4, s4, s5⟩ := R.out.str4 _ _ hw4
            have T4 : Hid _ := t4
            clear hw4 t4
            go_wp2
            go_roundg (8 - (k + 1))
            case measure => omega
            case rel => exact ⟨k + 1, by omega, rfl, by go_num, T4.out⟩
          · have kk : ¬ (k : Int) < (N : Int) - 1 := by omega
            have ke : ((k : Int) == (N : Int) - 1) = true := beq_iff_eq.2 (by omega)
            have KC : Hid (k + 1 = N) := kc
            clear kc
            by_cases ho : odd how = true
            · have rr : (how.tmod 2 != 0) = true := (rem_odd how).trans ho
              have SE : Hid ((kst N (odd how) b 8).onAgain.sec k = (pad b)) := kst_yes qk (Or.inr ⟨KC.out, ho⟩)
              go_wp2_with fail
              refine Calls.mono (Read_yes p q 8 (kst N (odd how) b 8).onAgain k wr T.out.d qk rfl) ?_
              rintro e w2 ⟨rfl, hw2⟩
              rw [SE.out] at hw2
              have R : Hid _ := rnd T.out hw2 (pad_both hbl hby.out)
              have mk : (Instr.makeSlice 27 (.int .i64 64) (.int .i64 64)).run Try.prog w2 = .ok (.slice (some ⟨w2.heap.size, 0, none⟩) 64 64) (w2.alloc (.cells (vals zero64).toArray 5)) := make_z w2 64 (by decide)
              have cp := copy_new w2 5 3 a m c b (Y.out.below R.out.t2.b) h
              have s1 := R.out.str1
              have s2 := R.out.str2
              have c1 := R.out.cell
              have f1 := R.out.fz
              generalize hC : vals (pad b) = C at *
              have HC : Hid (vals (pad b) = C) := hC
              generalize strOfNums (pad b) = x at *
              generalize (pad b).getD 0 0 = v at *
              clear hC hw2
              generalize vals zero64 = Z at *
              go_wp2_with fail
              refine Calls.mono (Read_yes p q 8 (kst N (odd how) b 8).onAgain k _ (R.out.t3 _).d qk rfl) ?_
              rintro e w4 ⟨rfl, hw4⟩
              rw [SE.out, HC.out] at hw4
              obtain ⟨t4, s4, s5⟩ := R.out.str4 _ _ hw4
              have T4 : Hid _ := t4
              clear hw4 t4
              go_wp2
              go_roundg (8 - (k + 1))
              case measure => omega
              case rel => exact ⟨k + 1, by omega, rfl, by go_num, T4.out⟩
            · have ho' : odd how = false := by simpa using ho
              have rr : how.tmod 2 = 0 := rem_no ho'
              have SE : Hid ((kst N (odd how) b 8).onAgain.sec k = zero64) := kst_no (fun x => by rcases x with y | y; have := KC.out; omega; exact ho y.2)
              go_wp2_with fail
              refine Calls.mono (Read_yes p q 8 (kst N (odd how) b 8).onAgain k wr T.out.d qk rfl) ?_
              rintro e w2 ⟨rfl, hw2⟩
              rw [SE.out] at hw2
              have R : Hid _ := rnd T.out hw2 zero_both
              have mk : (Instr.makeSlice 27 (.int .i64 64) (.int .i64 64)).run Try.prog w2 = .ok (.slice (some ⟨w2.heap.size, 0, none⟩) 64 64) (w2.alloc (.cells (vals zero64).toArray 5)) := make_z w2 64 (by decide)
              have s1 := R.out.str1
              have s2 := R.out.str2
              have c1 := R.out.cell
              have f1 := R.out.fz
              generalize hC : vals zero64 = C at *
              have HC : Hid (vals zero64 = C) := hC
              generalize strOfNums zero64 = x at *
              generalize zero64.getD 0 0 = v at *
              clear hC hw2
              go_wp2_with fail
              refine Calls.mono (Read_yes p q 8 (kst N (odd how) b 8).onAgain k _ (R.out.t3 _).d qk rfl) ?_
              rintro e w4 ⟨rfl, hw4⟩
              rw [SE.out, HC.out] at hw4
              obtain ⟨t4, s4, s5⟩ := R.out.str4 _ _ hw4
              have T4 : Hid _ := t4
              clear hw4 t4
              go_wp2
              go_roundg (8 - (k + 1))
              case measure => omega
              case rel => exact ⟨k + 1, by omega, rfl, by go_num, T4.out⟩
          · have kk : ¬ (k : Int) < (N : Int) - 1 := by omega
            have ke : ((k : Int) == (N : Int) - 1) = false := beq_eq_false_iff_ne.2 (by omega)
            have SE : Hid ((kst N (odd how) b 8).onAgain.sec k = zero64) := kst_no (fun x => by rcases x with y | y; omega; have := y.1; omega)
            go_wp2_with fail
            refine Calls.mono (Read_yes p q 8 (kst N (odd how) b 8).onAgain k wr T.out.d qk rfl) ?_
            rintro e w2 ⟨rfl, hw2⟩
            rw [SE.out] at hw2
            have R : Hid _ := rnd T.out hw2 zero_both
            have mk : (Instr.makeSlice 27 (.int .i64 64) (.int .i64 64)).run Try.prog w2 = .ok (.slice (some ⟨w2.heap.size, 0, none⟩) 64 64) (w2.alloc (.cells (vals zero64).toArray 5)) := make_z w2 64 (by decide)
            have s1 := R.out.str1
            have s2 := R.out.str2
            have c1 := R.out.cell
            have f1 := R.out.fz
            generalize hC : vals zero64 = C at *
            have HC : Hid (vals zero64 = C) := hC
            generalize strOfNums zero64 = x at *
            generalize zero64.getD 0 0 = v at *
            clear hC hw2
            go_wp2_with fail
            refine Calls.mono (Read_yes p q 8 (kst N (odd how) b 8).onAgain k _ (R.out.t3 _).d qk rfl) ?_
            rintro e w4 ⟨rfl, hw4⟩
            rw [SE.out, HC.out] at hw4
            obtain ⟨t4, s4, s5⟩ := R.out.str4 _ _ hw4
            have T4 : Hid _ := t4
            clear hw4 t4
            go_wp2
            go_roundg (8 - (k + 1))
            case measure => omega
            case rel => exact ⟨k + 1, by omega, rfl, by go_num, T4.out⟩
        · obtain rfl : k = 8 := by omega
          go_wp2
          go_ret
          exact ⟨rfl, T.out.b⟩

theorem walk (w : World) (a : Option Addr) (m c : Nat) (b : List Int) (hy : By w a m c b) (n : Int) (hn : (Lit.int .i64 n).wf = true) (how : Int) (hh : (Lit.int .i64 how).wf = true) : Calls Try.prog 5 #[.slice a m c, .int .i64 n, .int .i64 how] w fun e w' => e = .returned (.bool true) ∧ Below w.heap.size w w' := by
  by_cases h : 64 < m
  · exact walk_long w a m c n how h
  · by_cases h1 : n < 1
    · exact walk_low w a m c n how (by omega) h1
    · by_cases h2 : 8 < n
      · exact walk_high w a m c n how (by omega) h2
      · obtain ⟨N, rfl⟩ : ∃ N : Nat, n = N := ⟨n.toNat, by omega⟩
        exact walk_main w a m c b hy N how (by omega) (by omega) (by omega)


set_option maxRecDepth 100000 in
theorem lifted (os : Os) (started : os.Started) (H : Type) (enc : TypeId × Value → H) :
    ReturnsInHanded {} Try.checked os 5 .any (Rows.diskKeepsSpec.pre6 enc Try.prog Try.f5 Rows.diskKeepsRow.domain false) (Rows.diskKeepsSpec.post enc Try.prog Try.f5 false true false false) := by
  refine returnsInHanded_of_change (C := Try.checked) own started (by kernel_rfl) Try.func5
    (ChangeSpec.witness6 (enc := enc) (C := Try.checked) false ⟨#[], #[.slice none 0 0, .int .i64 0, .int .i64 0], []⟩ 8 (by kernel_rfl) (by kernel_rfl) (by kernel_rfl) (by kernel_rfl)) ?_
  intro W base args ds gs before hval0 hW hcnd _
  have hval : ∀ (j : Nat) t v, Try.f5.params[j]? = some t → args[j]? = some v → Value.okWide Try.prog W .any base t v := hval0
  have hW' := hW
  obtain ⟨p, q, hA0, hV, rfl, hfz, hnd⟩ := hW
  have hA : DataW.TrodAll enc Try.prog W 0 (fun _ => true) true Try.f5.params.toList args.toList ds p := hA0
  rw [Try.params5] at hA hval
  obtain ⟨v0, vs0, d0, ds0, p0, q0, hargs, rfl, rfl, h0, r0⟩ := trodAll_cons hA
  obtain ⟨v1, vs1, d1, ds1, p1, q1, rfl, rfl, rfl, h1, r1⟩ := trodAll_cons r0
  obtain ⟨v2, vs2, d2, ds2, p2, q2, rfl, rfl, rfl, h2, r2⟩ := trodAll_cons r1
  obtain ⟨rfl, rfl, rfl⟩ := trodAll_nil r2
  obtain rfl : args = #[v0, v1, v2] := by cases args; simp_all
  obtain ⟨rfl, rfl⟩ := trodVars_none hV
  obtain ⟨a0, len0, cap0, rfl⟩ := okWide_slice Try.underlying27 (hval 0 27 v0 rfl rfl)
  have k0 := h0
  have lt0 : ∀ x ∈ p0, x.block < W.heap.size := by obtain ⟨m, hm⟩ := k0; exact DataW.trod_lt m _ _ _ hm
  obtain ⟨z0, w0⟩ : ∃ zs, By W a0 len0 cap0 zs := by
    obtain ⟨fuel, hf⟩ := h0
    exact by_of hf
  obtain ⟨a1, rfl, rfl, rfl, w1⟩ := open_int Try.underlying3 (hval 1 3 v1 rfl rfl) h1
  obtain ⟨a2, rfl, rfl, rfl, w2⟩ := open_int Try.underlying3 (hval 2 3 v2 rfl rfl) h2
  clear hA0 hval0
  refine (walk W a0 len0 cap0 z0 w0 a1 w1 a2 w2).mono fun e W' ⟨he, bel⟩ => ?_
  subst he
  exact ⟨_, rfl, _, _, _, [], _, [], hW', trodAll_mk1 (shut_bool Try.underlying4 _), (trodAll_cons_mk (Below.trod laidOut (by kernel_rfl) (of_decide_eq_true (by kernel_rfl)) k0 bel lt0) (trodAll_cons_mk (shut_int Try.underlying3 w1) (trodAll_cons_mk (shut_int Try.underlying3 w2) trodAll_mk0))), rfl, bel.frame _, fun h => by cases h⟩

theorem over : Rows.diskKeepsRow.holds Try.pinned (OpenSpec.ofChange Rows.diskKeepsSpec) :=
  OpenClaim.holds_of_wide 5 Try.f5 rfl rfl rfl rfl rfl rfl rfl ⟨rfl, rfl, rfl, rfl, rfl⟩ rfl rfl rfl rfl rfl (by kernel_rfl) Try.func5 (by kernel_rfl)
    (of_decide_eq_true (by kernel_rfl)) (by unfold Func.isWrapper; first | (rw [if_pos (by decide +kernel)]; kernel_rfl) | (rw [if_neg (by decide +kernel)]; exact ⟨rfl, rfl⟩))
    (fun os started H enc _ => lifted os started H enc)

end Go.Proofs.Ytidfgianbahjcaa.diskKeeps
namespace Go.Proofs.Ytidfgianbahjcaa

theorem DiskKeeps_holds : Rows.DiskKeepsSaid := diskKeeps.over

end Go.Proofs.Ytidfgianbahjcaa
