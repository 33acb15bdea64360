/- The walks over package lex, on: day. -/
import Derived.Test.YtobolipjgkabhaaDoorL4
namespace Go.Proofs.YtobolipjgkabhaaDoor
open Go.RowKit
set_option linter.unusedVariables false
set_option linter.unusedSimpArgs false

theorem tl_10 {s : ByteArray} {a : Nat} (h : a + 10 ≤ s.size) : tl s a = [bt s a, bt s (a + 1), bt s (a + 2), bt s (a + 3), bt s (a + 4), bt s (a + 5), bt s (a + 6), bt s (a + 7), bt s (a + 8), bt s (a + 9)] ++ tl s (a + 10) := by
  rw [tl_cons (k := a) (by omega), tl_cons (k := a + 1) (by omega), tl_cons (k := a + 1 + 1) (by omega), tl_cons (k := a + 1 + 1 + 1) (by omega), tl_cons (k := a + 1 + 1 + 1 + 1) (by omega), tl_cons (k := a + 1 + 1 + 1 + 1 + 1) (by omega), tl_cons (k := a + 1 + 1 + 1 + 1 + 1 + 1) (by omega), tl_cons (k := a + 1 + 1 + 1 + 1 + 1 + 1 + 1) (by omega), tl_cons (k := a + 1 + 1 + 1 + 1 + 1 + 1 + 1 + 1) (by omega), tl_cons (k := a + 1 + 1 + 1 + 1 + 1 + 1 + 1 + 1 + 1) (by omega)]
  rfl
theorem ext_10 {s : ByteArray} {a : Nat} (h : a + 10 ≤ s.size) : s.extract a (a + 10) = ⟨#[bt s a, bt s (a + 1), bt s (a + 2), bt s (a + 3), bt s (a + 4), bt s (a + 5), bt s (a + 6), bt s (a + 7), bt s (a + 8), bt s (a + 9)]⟩ := by
  rw [ext_is, tl_10 h, show a + 10 - a = 10 by omega]
  rfl
def dN (s : ByteArray) (a : Nat) : Int := rdN (bt s a) (bt s (a + 1)) (bt s (a + 2)) (bt s (a + 3)) (bt s (a + 4)) (bt s (a + 5)) (bt s (a + 6)) (bt s (a + 7)) (bt s (a + 8)) (bt s (a + 9))
def dB (s : ByteArray) (a : Nat) : Bool := rdB (bt s a) (bt s (a + 1)) (bt s (a + 2)) (bt s (a + 3)) (bt s (a + 4)) (bt s (a + 5)) (bt s (a + 6)) (bt s (a + 7)) (bt s (a + 8)) (bt s (a + 9))
theorem dayRead {s : ByteArray} {a : Nat} (w : World) (h : a + 10 ≤ s.size) : Calls Tryd.prog 43 #[.string (s.extract a (a + 10))] w fun e w' => e = .returned (.tuple #[.int .i64 (dN s a), .bool (dB s a)]) ∧ Below w.heap.size w w' := by
  rw [ext_10 h]
  exact read_all _ _ _ _ _ _ _ _ _ _ w
theorem dN_bd (s : ByteArray) (a : Nat) : 0 ≤ dN s a ∧ dN s a ≤ 109572 ∨ dB s a = false := by
  unfold dN dB
  generalize bt s a = c0, bt s (a + 1) = c1, bt s (a + 2) = c2, bt s (a + 3) = c3, bt s (a + 4) = c4, bt s (a + 5) = c5, bt s (a + 6) = c6, bt s (a + 7) = c7, bt s (a + 8) = c8, bt s (a + 9) = c9
  cases h : fitB c0 c1 c2 c3 c4 c5 c6 c7 c8 c9
  · exact .inr (rd_no h).2
  · rw [(rd_yes h).1, (rd_yes h).2]
    cases k : dateB (dg4 c0 c1 c2 c3) (dg2 c5 c6) (dg2 c8 c9)
    · exact .inr rfl
    · exact .inl (isDate_of k).bd
theorem dayW_is {s : ByteArray} {a : Nat} (h : a + 10 ≤ s.size) : dayW (tl s a) = if dEnd s (a + 10) ≠ a + 10 then none else if dB s a then some (dN s a).toNat else none := by
  rw [tl_10 h]
  show (if runD (tl s (a + 10)) ≠ 0 then none else if dB s a then some (dN s a).toNat else none) = _
  by_cases z : runD (tl s (a + 10)) = 0
  · have y : dEnd s (a + 10) = a + 10 := by unfold dEnd; omega
    rw [z, y]
    simp
  · have y : dEnd s (a + 10) ≠ a + 10 := by unfold dEnd; omega
    rw [if_pos z, if_pos y]
theorem dayW_short {s : ByteArray} {a : Nat} (h : ¬ a + 10 ≤ s.size) : dayW (tl s a) = none := by
  have hl : (tl s a).length < 10 := by rw [tl_len]; omega
  generalize tl s a = l at hl
  unfold dayW
  split
  · simp at hl; omega
  · rfl

set_option maxHeartbeats 2000000 in
theorem day_any (s : ByteArray) (a : Nat) (w : World) (ha : a < s.size) (hs : s.size < 9000000000000000000) :
    Calls Tryd.prog 24 #[.string s, .int .i64 (a : Nat)] w fun e w' => LgP s a ((dayW (tl s a)).map fun n => (6, 10, n)) e ∧ Below w.heap.size w w' := by
  by_cases h : a + 10 ≤ s.size
  · have h' : ¬ (a : Int) + 10 > (s.size : Int) := by omega
    have K := fun w => digits_any s (a + 10) w h (by omega)
    rw [Int.natCast_add] at K
    have KH : Hid _ := K
    clear K
    have RH : Hid _ := fun w => dayRead (s := s) (a := a) w h
    have DW : Hid _ := dayW_is h
    have k1 := dEnd_le h
    have DB : Hid _ := dN_bd s a
    generalize dN s a = N at *
    generalize dB s a = B at *
    generalize dEnd s (a + 10) = K at *
    by_cases z : K = a + 10
    · subst z
      rw [Int.natCast_add] at KH
      have LG : Hid (LgP s a ((dayW (tl s a)).map fun n => (6, 10, n)) (.returned (.tuple #[.agg #[.int .i64 6, .string (s.extract a (a + 10)), .int .i64 N, .int .i64 (a : Nat)], .bool B]))) := by
        show LgP _ _ _ _
        rw [DW.out, if_neg (by omega)]
        cases B with
        | false => exact ⟨_, _, _, _, rfl⟩
        | true =>
          have e : N = (N.toNat : Nat) := by rcases DB.out with x | x; · omega
                                             · cases x
          show _ = _
          rw [← e]
          rfl
      clear DW DB
      go_enter Tryd.func24, Tryd.ntmps24
      go_upto_region 1 with fail
      have Q0 := X4.new w 41 (.int .i64 0) (.string ⟨#[]⟩) (.int .i64 0) (.int .i64 0)
      generalize (w.alloc _) = w0 at *
      have QH : Hid _ := Q0
      clear Q0
      go_upto_region 5 with (first | (go_at_call 25; refine Calls.mono (KH.out _) ?_; rintro e w5 ⟨rfl, hb5⟩) | (go_at_call 43; with_reducible refine Calls.mono (RH.out _) ?_; rintro e w6 ⟨rfl, hb6⟩))
      have QF : Hid _ := (QH.out.next hb5).next hb6
      obtain ⟨c0, c1, c2, c3, cf, _, _⟩ := QF.out
      go_wp2
      have X : Hid _ := QF.out.set (.int .i64 6) (.string (s.extract a (a + 10))) (.int .i64 N) (.int .i64 (a : Nat))
      clear QF c0 c1 c2 c3 cf
      generalize ((((w6.setCell ⟨w.heap.size, 0, none⟩ (.int .i64 6)).setCell ⟨w.heap.size, 1, none⟩ (.string (s.extract a (a + 10)))).setCell ⟨w.heap.size, 2, none⟩ (.int .i64 N)).setCell ⟨w.heap.size, 3, none⟩ (.int .i64 (a : Nat))) = W8 at *
      obtain ⟨t0, t1, t2, t3, _, tb, _⟩ := X.out
      exact bodyPost_ret (v := .tuple #[.agg #[.int .i64 6, .string (s.extract a (a + 10)), .int .i64 N, .int .i64 (a : Nat)], .bool B]) (by simp [results, Tryd.results24, go_sem, t0, t1, t2, t3]) rfl ⟨LG.out, tb⟩
    · have LG : Hid _ := (by rw [DW.out, if_pos z] : dayW (tl s a) = none)
      have z' : ((K : Int) != (a : Int) + 10) = true := bnet (by omega)
      clear DW DB RH
      go_enter Tryd.func24, Tryd.ntmps24
      go_upto_region 1 with fail
      have Q0 := X4.new w 41 (.int .i64 0) (.string ⟨#[]⟩) (.int .i64 0) (.int .i64 0)
      generalize (w.alloc _) = w0 at *
      have QH : Hid _ := Q0
      clear Q0
      go_upto_region 3 with (first | (go_at_call 25; refine Calls.mono (KH.out _) ?_; rintro e w5 ⟨rfl, hb5⟩))
      have QF : Hid _ := QH.out.next hb5
      obtain ⟨c0, c1, c2, c3, cf, _, _⟩ := QF.out
      go_wp2
      have X : Hid _ := QF.out.set (.int .i64 0) (.string ⟨#[]⟩) (.int .i64 0) (.int .i64 0)
      clear QF c0 c1 c2 c3 cf
      generalize ((((w5.setCell ⟨w.heap.size, 0, none⟩ (.int .i64 0)).setCell ⟨w.heap.size, 1, none⟩ (.string ⟨#[]⟩)).setCell ⟨w.heap.size, 2, none⟩ (.int .i64 0)).setCell ⟨w.heap.size, 3, none⟩ (.int .i64 0)) = W8 at *
      obtain ⟨t0, t1, t2, t3, _, tb, _⟩ := X.out
      exact bodyPost_ret (v := .tuple #[.agg #[.int .i64 0, .string ⟨#[]⟩, .int .i64 0, .int .i64 0], .bool false]) (by simp [results, Tryd.results24, go_sem, t0, t1, t2, t3]) rfl ⟨by rw [LG.out]; exact ⟨_, _, _, _, rfl⟩, tb⟩
  · have LG : Hid _ := dayW_short h
    have h' : (s.size : Int) < (a : Int) + 10 := by omega
    go_enter Tryd.func24, Tryd.ntmps24
    go_upto_region 1 with fail
    have Q0 := X4.new w 41 (.int .i64 0) (.string ⟨#[]⟩) (.int .i64 0) (.int .i64 0)
    generalize (w.alloc _) = w0 at *
    have QF : Hid _ := Q0
    obtain ⟨c0, c1, c2, c3, cf, _, _⟩ := Q0
    go_wp2
    have X : Hid _ := QF.out.set (.int .i64 0) (.string ⟨#[]⟩) (.int .i64 0) (.int .i64 0)
    clear QF c0 c1 c2 c3 cf
    generalize ((((w0.setCell ⟨w.heap.size, 0, none⟩ (.int .i64 0)).setCell ⟨w.heap.size, 1, none⟩ (.string ⟨#[]⟩)).setCell ⟨w.heap.size, 2, none⟩ (.int .i64 0)).setCell ⟨w.heap.size, 3, none⟩ (.int .i64 0)) = W8 at *
    obtain ⟨t0, t1, t2, t3, _, tb, _⟩ := X.out
    exact bodyPost_ret (v := .tuple #[.agg #[.int .i64 0, .string ⟨#[]⟩, .int .i64 0, .int .i64 0], .bool false]) (by simp [results, Tryd.results24, go_sem, t0, t1, t2, t3]) rfl ⟨by rw [LG.out]; exact ⟨_, _, _, _, rfl⟩, tb⟩
end Go.Proofs.YtobolipjgkabhaaDoor
