/- The walks over package lex, on: long. -/
import Derived.Test.YtobolipjgkabhaaDoorL8
import Derived.Test.YtobolipjgkabhaaDoorL7
import Derived.BigQuiet
namespace Go.Proofs.YtobolipjgkabhaaDoor
open Go.RowKit
set_option linter.unusedVariables false
set_option linter.unusedSimpArgs false

theorem qsame {P : Program} {f : FuncId} {args : Array Value} {w : World} {n : Nat} {v : Value} (h : ∀ w, Calls P f args w fun e w' => e = .returned v ∧ w = w') : Calls P f args (w.drewN n) fun e w'' => e = .returned v ∧ ∃ m, w'' = w.drewN m :=
  (h _).mono fun _ _ ⟨he, hm⟩ => ⟨he, n, hm.symm⟩
/-- An answer that is handed on. -/
theorem LgP.parts {s : ByteArray} {a : Nat} {o : Option (Nat × Nat × Nat)} {e : Ending} (h : LgP s a o e) : ∃ k t n b B, e = .returned (.tuple #[.agg #[.int .i64 k, .string t, .int .i64 n, .int .i64 b], .bool B]) := by
  match o, h with
  | some (k, n, v), h => exact ⟨_, _, _, _, _, h⟩
  | none, ⟨k, t, n, b, h⟩ => exact ⟨_, _, _, _, _, h⟩

set_option maxHeartbeats 4000000 in
theorem long_let (s : ByteArray) (a : Nat) (w : World) (ha : a < s.size) (hs : s.size < 9000000000000000000) (hc : leB (bt s a).toNat = true) :
    Calls Tryd.prog 15 #[.string s, .int .i64 (a : Nat)] w fun e w' => LgP s a (namW (tl s a)) e ∧ Below w.heap.size w w' := by
  have xi := congrArg (fun c : UInt8 => (c.toNat : Int)) (bt_at ha)
  have KH : Hid _ := fun w => name_any s a w ha hs
  go_enter Tryd.func15, Tryd.ntmps15
  go_upto_region 1 with fail
  have Q0 := X4.new w 41 (.int .i64 0) (.string ⟨#[]⟩) (.int .i64 0) (.int .i64 0)
  generalize (w.alloc _) = w0 at *
  have QH : Hid _ := Q0
  clear Q0
  go_upto_region 3 with (first | (go_at_call 13; refine (letter_any _ _).mono ?_; rintro e w5 ⟨rfl, rfl⟩))
  go_wp2_with fail
  refine Calls.mono (KH.out _) ?_
  rintro e w6 ⟨hL, hb6⟩
  have LG : Hid _ := hL
  obtain ⟨k, t, n, b, B, he⟩ := hL.parts
  subst he
  clear hL
  have QF : Hid _ := QH.out.next hb6
  obtain ⟨c0, c1, c2, c3, cf, _, _⟩ := QF.out
  go_wp2
  have X : Hid _ := QF.out.set (.int .i64 k) (.string t) (.int .i64 n) (.int .i64 b)
  clear c0 c1 c2 c3 cf
  generalize ((((w6.setCell ⟨w.heap.size, 0, none⟩ (.int .i64 k)).setCell ⟨w.heap.size, 1, none⟩ (.string t)).setCell ⟨w.heap.size, 2, none⟩ (.int .i64 n)).setCell ⟨w.heap.size, 3, none⟩ (.int .i64 b)) = W8 at *
  obtain ⟨t0, t1, t2, t3, _, tb, _⟩ := X.out
  exact bodyPost_ret (v := .tuple #[.agg #[.int .i64 k, .string t, .int .i64 n, .int .i64 b], .bool B]) (by simp [results, Tryd.results15, go_sem, t0, t1, t2, t3]) rfl ⟨LG.out, tb⟩

set_option maxHeartbeats 4000000 in
theorem long_mon (s : ByteArray) (a : Nat) (w : World) (ha : a < s.size) (hs : s.size < 9000000000000000000) (hc : leB (bt s a).toNat = false) (hd : ((bt s a).toNat : Int) = 36) :
    Calls Tryd.prog 15 #[.string s, .int .i64 (a : Nat)] w fun e w' => LgP s a (monW (tl s a)) e ∧ Below w.heap.size w w' := by
  have xi := congrArg (fun c : UInt8 => (c.toNat : Int)) (bt_at ha)
  have KH : Hid _ := fun w => money_any s a w ha (by omega)
  rw [hd] at hc xi
  go_enter Tryd.func15, Tryd.ntmps15
  go_upto_region 1 with fail
  have Q0 := X4.new w 41 (.int .i64 0) (.string ⟨#[]⟩) (.int .i64 0) (.int .i64 0)
  generalize (w.alloc _) = w0 at *
  have QH : Hid _ := Q0
  clear Q0
  go_upto_region 5 with (first | (go_at_call 13; refine (letter_any _ _).mono ?_; rintro e w5 ⟨rfl, rfl⟩))
  go_wp2_with fail
  refine Calls.mono (KH.out _) ?_
  rintro e w6 ⟨hL, hb6⟩
  have LG : Hid _ := hL
  obtain ⟨k, t, n, b, B, he⟩ := hL.parts
  subst he
  clear hL
  have QF : Hid _ := QH.out.next hb6
  obtain ⟨c0, c1, c2, c3, cf, _, _⟩ := QF.out
  go_wp2
  have X : Hid _ := QF.out.set (.int .i64 k) (.string t) (.int .i64 n) (.int .i64 b)
  clear c0 c1 c2 c3 cf
  generalize ((((w6.setCell ⟨w.heap.size, 0, none⟩ (.int .i64 k)).setCell ⟨w.heap.size, 1, none⟩ (.string t)).setCell ⟨w.heap.size, 2, none⟩ (.int .i64 n)).setCell ⟨w.heap.size, 3, none⟩ (.int .i64 b)) = W8 at *
  obtain ⟨t0, t1, t2, t3, _, tb, _⟩ := X.out
  exact bodyPost_ret (v := .tuple #[.agg #[.int .i64 k, .string t, .int .i64 n, .int .i64 b], .bool B]) (by simp [results, Tryd.results15, go_sem, t0, t1, t2, t3]) rfl ⟨LG.out, tb⟩

set_option maxHeartbeats 4000000 in
theorem long_num (s : ByteArray) (a : Nat) (w : World) (ha : a < s.size) (hs : s.size < 9000000000000000000) (hc : leB (bt s a).toNat = false) (hd : ((bt s a).toNat : Int) ≠ 36) :
    Calls Tryd.prog 15 #[.string s, .int .i64 (a : Nat)] w fun e w' => LgP s a (numW (tl s a)) e ∧ Below w.heap.size w w' := by
  have xi := congrArg (fun c : UInt8 => (c.toNat : Int)) (bt_at ha)
  have hd' : (((bt s a).toNat : Int) == 36) = false := beqf hd
  have KH : Hid _ := fun w => day_any s a w ha hs
  cases hD : dayW (tl s a) with
  | some n =>
    have LG : Hid (LgP s a (numW (tl s a)) (.returned (.tuple #[.agg #[.int .i64 6, .string (s.extract a (a + 10)), .int .i64 (n : Nat), .int .i64 (a : Nat)], .bool true]))) := by
      unfold numW
      rw [hD]
      rfl
    rw [hD] at KH
    clear hD
    go_enter Tryd.func15, Tryd.ntmps15
    go_upto_region 1 with fail
    have Q0 := X4.new w 41 (.int .i64 0) (.string ⟨#[]⟩) (.int .i64 0) (.int .i64 0)
    generalize (w.alloc _) = w0 at *
    have QH : Hid _ := Q0
    clear Q0
    go_upto_region 6 with (first | (go_at_call 13; refine (letter_any _ _).mono ?_; rintro e w5 ⟨rfl, rfl⟩))
    go_wp2_with fail
    refine Calls.mono (KH.out _) ?_
    rintro e w6 ⟨hL, hb6⟩
    have hL : e = .returned (.tuple #[.agg #[.int .i64 6, .string (s.extract a (a + 10)), .int .i64 (n : Nat), .int .i64 (a : Nat)], .bool true]) := hL
    subst hL
    have QG := QH.out.next hb6
    have XB := QG.box 41 (.int .i64 6) (.string (s.extract a (a + 10))) (.int .i64 (n : Nat)) (.int .i64 (a : Nat))
    have XH : Hid _ := XB
    have lt := QG.lt
    clear XB
    have hne : w.heap.size ≠ w6.heap.size := by omega
    clear QG
    go_upto_region 7 with fail
    generalize w6.heap.size = q at *
    generalize w6.alloc (.cells #[.int .i64 6, .string (s.extract a (a + 10)), .int .i64 (n : Nat), .int .i64 (a : Nat)] 41) = w4 at *
    have QF : Hid _ := XH.out.1
    obtain ⟨d0, d1, d2, d3, df, _, _⟩ := XH.out.2
    obtain ⟨c0, c1, c2, c3, cf, _, _⟩ := QF.out
    go_wp2
    have X : Hid _ := QF.out.set (.int .i64 6) (.string (s.extract a (a + 10))) (.int .i64 (n : Nat)) (.int .i64 (a : Nat))
    clear c0 c1 c2 c3 cf
    generalize ((((w4.setCell ⟨w.heap.size, 0, none⟩ (.int .i64 6)).setCell ⟨w.heap.size, 1, none⟩ (.string (s.extract a (a + 10)))).setCell ⟨w.heap.size, 2, none⟩ (.int .i64 (n : Nat))).setCell ⟨w.heap.size, 3, none⟩ (.int .i64 (a : Nat))) = W8 at *
    obtain ⟨t0, t1, t2, t3, _, tb, _⟩ := X.out
    exact bodyPost_ret (v := .tuple #[.agg #[.int .i64 6, .string (s.extract a (a + 10)), .int .i64 (n : Nat), .int .i64 (a : Nat)], .bool true]) (by simp [results, Tryd.results15, go_sem, t0, t1, t2, t3]) rfl ⟨LG.out, tb⟩
  | none =>
    have LR : Hid _ := fun h => numW_rate (s := s) (a := a) hD h
    have LC : Hid _ := fun h => numW_count (s := s) (a := a) hD h
    rw [hD] at KH
    clear hD
    have k1 : dEnd s a ≤ s.size := dEnd_le (by omega)
    have k0 : a ≤ dEnd s a := by unfold dEnd; omega
    obtain ⟨p0, p1⟩ := pctE_le k1
    have DG : Hid _ := fun w => digits_any s a w (by omega) (by omega)
    have PC : Hid _ := fun w => percent_any s (dEnd s a) w k1 (by omega)
    have F1 : Hid (∀ w, Calls Tryd.prog 27 #[.int .i64 0, .string (s.extract a (dEnd s a))] w fun e w' => e = .returned (.int .i64 (figN 0 (s.extract a (dEnd s a)) : Nat)) ∧ w = w') := fun w => figure_q (s.extract a (dEnd s a)) 0 w (by omega) (allD_ext (Nat.le_refl _)) (by simp [ByteArray.size_extract]; omega)
    have BD : Hid _ := fun w => behind_ext s (dEnd s a) w k1
    have v0 := figN_le 0 (s.extract a (dEnd s a))
    have F2 : Hid _ := fun w => figure_q (tx (partB s (dEnd s a))) (figN 0 (s.extract a (dEnd s a))) w v0 (partB_dig s _) (by rw [partB_size]; omega)
    have pl : pctB s (dEnd s a) = true → pctE s (dEnd s a) < s.size := fun h => by
      rcases Nat.lt_or_ge (pctE s (dEnd s a)) s.size with x | x
      · exact x
      · rw [pctB_nil x] at h; cases h
    have v1 := figN_le (figN 0 (s.extract a (dEnd s a))) (tx (partB s (dEnd s a)))
    generalize pctB s (dEnd s a) = PB at *
    generalize figN (figN 0 (s.extract a (dEnd s a))) (tx (partB s (dEnd s a))) = V at *
    generalize figN 0 (s.extract a (dEnd s a)) = V0 at *
    generalize tx (partB s (dEnd s a)) = T at *
    generalize pctE s (dEnd s a) = P at *
    generalize dEnd s a = E at *
    go_enter Tryd.func15, Tryd.ntmps15
    go_upto_region 1 with fail
    have Q0 := X4.new w 41 (.int .i64 0) (.string ⟨#[]⟩) (.int .i64 0) (.int .i64 0)
    generalize (w.alloc _) = w0 at *
    have QH : Hid _ := Q0
    clear Q0
    go_upto_region 6 with (first | (go_at_call 13; refine (letter_any _ _).mono ?_; rintro e w5 ⟨rfl, rfl⟩))
    go_wp2_with fail
    refine Calls.mono (KH.out _) ?_
    rintro e w6 ⟨hL, hb6⟩
    obtain ⟨xk, xt, xn, xb, hL⟩ : ∃ k t n b, e = .returned (.tuple #[.agg #[.int .i64 k, .string t, .int .i64 n, .int .i64 b], .bool false]) := hL
    subst hL
    have QG := QH.out.next hb6
    have XH : Hid _ := QG.next (X4.new w6 41 (.int .i64 xk) (.string xt) (.int .i64 xn) (.int .i64 xb)).bl
    clear QG
    go_upto_region 9 with fail
    generalize w6.alloc (.cells #[.int .i64 xk, .string xt, .int .i64 xn, .int .i64 xb] 41) = w4 at *
    clear KH
    cases PB with
    | false =>
      have LG : Hid _ := LC.out rfl
      clear LR LC F2 BD pl
      go_upto_region 15 with (first | (go_at_call 25; with_reducible refine Calls.mono (DG.out _) ?_; rintro e w7 ⟨rfl, hb7⟩) | (go_at_call 26; with_reducible refine Calls.mono (PC.out _) ?_; rintro e w8 ⟨rfl, hb8⟩) | (go_at_call 27; with_reducible refine Calls.mono (F1.out _) ?_; rintro e w9 ⟨rfl, rfl⟩))
      have QF : Hid _ := (XH.out.next hb7).next hb8
      obtain ⟨c0, c1, c2, c3, cf, _, _⟩ := QF.out
      go_wp2
      have X : Hid _ := QF.out.set (.int .i64 3) (.string (s.extract a E)) (.int .i64 (V0 : Nat)) (.int .i64 (a : Nat))
      clear c0 c1 c2 c3 cf
      generalize ((((w8.setCell ⟨w.heap.size, 0, none⟩ (.int .i64 3)).setCell ⟨w.heap.size, 1, none⟩ (.string (s.extract a E))).setCell ⟨w.heap.size, 2, none⟩ (.int .i64 (V0 : Nat))).setCell ⟨w.heap.size, 3, none⟩ (.int .i64 (a : Nat))) = W8 at *
      obtain ⟨t0, t1, t2, t3, _, tb, _⟩ := X.out
      exact bodyPost_ret (v := .tuple #[.agg #[.int .i64 3, .string (s.extract a E), .int .i64 (V0 : Nat), .int .i64 (a : Nat)], .bool (decide ((V0 : Int) ≤ 4503599627370496))]) (by simp [results, Tryd.results15, go_sem, t0, t1, t2, t3]) rfl ⟨LG.out, tb⟩
    | true =>
      have LG : Hid _ := LR.out rfl
      have pl := pl rfl
      clear LR LC
      go_upto_region 12 with (first | (go_at_call 25; with_reducible refine Calls.mono (DG.out _) ?_; rintro e w7 ⟨rfl, hb7⟩) | (go_at_call 26; with_reducible refine Calls.mono (PC.out _) ?_; rintro e w8 ⟨rfl, hb8⟩))
      have S0 := nextB hb7 hb8
      have pz : (P : Int) + 1 - 1 = (P : Int) := by omega
      go_quiet (first | (go_at_call 27; with_reducible exact qsame F1.out) | (go_at_call 28; with_reducible exact qsame BD.out) | (go_at_call 27; with_reducible exact qsame F2.out))
      have S1 := nextB S0 (below_drewN _ nq)
      generalize w8.drewN nq = w9 at *
      have QF : Hid _ := XH.out.next S1
      obtain ⟨c0, c1, c2, c3, cf, _, _⟩ := QF.out
      go_wp2
      have X : Hid _ := QF.out.set (.int .i64 5) (.string (s.extract a (P + 1))) (.int .i64 (V : Nat)) (.int .i64 (a : Nat))
      clear c0 c1 c2 c3 cf
      generalize ((((w9.setCell ⟨w.heap.size, 0, none⟩ (.int .i64 5)).setCell ⟨w.heap.size, 1, none⟩ (.string (s.extract a (P + 1)))).setCell ⟨w.heap.size, 2, none⟩ (.int .i64 (V : Nat))).setCell ⟨w.heap.size, 3, none⟩ (.int .i64 (a : Nat))) = W8 at *
      obtain ⟨t0, t1, t2, t3, _, tb, _⟩ := X.out
      exact bodyPost_ret (v := .tuple #[.agg #[.int .i64 5, .string (s.extract a (P + 1)), .int .i64 (V : Nat), .int .i64 (a : Nat)], .bool (decide ((V : Int) ≤ 1000000000000))]) (by simp [results, Tryd.results15, go_sem, t0, t1, t2, t3]) rfl ⟨LG.out, tb⟩
end Go.Proofs.YtobolipjgkabhaaDoor
