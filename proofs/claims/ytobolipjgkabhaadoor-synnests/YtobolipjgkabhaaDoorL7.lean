/- The walks over package lex, on: name. -/
import Derived.Test.YtobolipjgkabhaaDoorL4
namespace Go.Proofs.YtobolipjgkabhaaDoor
open Go.RowKit
set_option linter.unusedVariables false
set_option linter.unusedSimpArgs false

def nEnd (s : ByteArray) (a : Nat) : Nat := a + runN (tl s a)
def nmB (c : Int) : Bool := leB c || dgB c || c == 95
theorem runN_cons {s : ByteArray} {k : Nat} (h : k < s.size) : runN (tl s k) = if nmB (bt s k).toNat then runN (tl s (k + 1)) + 1 else 0 := by
  rw [tl_cons h]
  rfl
theorem runN_le (l : List UInt8) : runN l ≤ l.length := by
  induction l with
  | nil => exact Nat.le_refl _
  | cons c l ih =>
    unfold runN
    split
    · simp; omega
    · simp
theorem nEnd_le {s : ByteArray} {a : Nat} (h : a ≤ s.size) : nEnd s a ≤ s.size := by
  have := runN_le (tl s a)
  rw [tl_len] at this
  unfold nEnd
  omega
theorem kept_ext (s : ByteArray) (a : Nat) : keptB (s.extract a (nEnd s a)).data.toList = keptB ((tl s a).take (runN (tl s a))) := by
  rw [ext_data]
  show keptB ((tl s a).take (nEnd s a - a)) = _
  rw [show nEnd s a - a = runN (tl s a) by unfold nEnd; omega]

theorem X4.base {w0 w1 w : World} {b : Nat} {v0 v1 v2 v3 : Value} (h : X4 w1 w b v0 v1 v2 v3) (hb : Below w0.heap.size w0 w1) : X4 w0 w b v0 v1 v2 v3 :=
  ⟨h.c0, h.c1, h.c2, h.c3, h.fz, nextB hb h.bl, Nat.le_trans hb.size h.ge⟩
/-- A second word laid into a new block beside the first. -/
theorem X4.box {w0 w : World} {b : Nat} {z0 z1 z2 z3 : Value} (h : X4 w0 w b z0 z1 z2 z3) (t : TypeId) (v0 v1 v2 v3 : Value) :
    X4 w0 (w.alloc (.cells #[v0, v1, v2, v3] t)) b z0 z1 z2 z3 ∧ X4 w0 (w.alloc (.cells #[v0, v1, v2, v3] t)) w.heap.size v0 v1 v2 v3 :=
  ⟨h.next (X4.new w t v0 v1 v2 v3).bl, (X4.new w t v0 v1 v2 v3).base h.bl⟩

set_option maxHeartbeats 2000000 in
theorem name_any (s : ByteArray) (a : Nat) (w : World) (ha : a < s.size) (hs : s.size < 9000000000000000000) :
    Calls Tryd.prog 22 #[.string s, .int .i64 (a : Nat)] w fun e w' => LgP s a (namW (tl s a)) e ∧ Below w.heap.size w w' := by
  have k1 := nEnd_le (s := s) (a := a) (by omega)
  have k0 : a ≤ nEnd s a := by unfold nEnd; omega
  have KH : Hid _ := fun w => kept_any (s.extract a (nEnd s a)) w
  have LG : Hid (∀ B : Bool, keptB (s.extract a (nEnd s a)).data.toList = B → LgP s a (namW (tl s a)) (.returned (.tuple #[.agg #[.int .i64 (if B then 2 else 1), .string (s.extract a (nEnd s a)), .int .i64 0, .int .i64 (a : Nat)], .bool (decide ((nEnd s a : Int) - (a : Int) ≤ 32))]))) := by
    intro B hB
    rw [kept_ext] at hB
    unfold namW
    by_cases y : runN (tl s a) ≤ 32
    · have y' : decide ((nEnd s a : Int) - (a : Int) ≤ 32) = true := decide_eq_true (by unfold nEnd; omega)
      rw [if_pos y, hB, y']
      show _ = _
      cases B <;> rfl
    · have y' : decide ((nEnd s a : Int) - (a : Int) ≤ 32) = false := decide_eq_false (by unfold nEnd; omega)
      rw [if_neg y, y']
      exact ⟨_, _, _, _, rfl⟩
  have HE : Hid (nEnd s a = a + runN (tl s a)) := (rfl : nEnd s a = a + runN (tl s a))
  generalize keptB (s.extract a (nEnd s a)).data.toList = B at *
  generalize nEnd s a = E at *
  go_enter Tryd.func22, Tryd.ntmps22
  go_upto_region 1 with fail
  have Q0 := X4.new w 41 (.int .i64 0) (.string ⟨#[]⟩) (.int .i64 0) (.int .i64 0)
  generalize (w.alloc _) = w0 at *
  have QH : Hid _ := Q0
  clear Q0
  go_upto_region 2 with fail
  go_loopg [6] (s.size + 1 - a) (fun g iv wr => ∃ k : Nat, a ≤ k ∧ k ≤ s.size ∧ g = s.size + 1 - k ∧ iv = .int .i64 (k : Nat) ∧ Hid (X4 w wr w.heap.size (.int .i64 0) (.string ⟨#[]⟩) (.int .i64 0) (.int .i64 0)) ∧ Hid (k + runN (tl s k) = E))
  case atStart => exact ⟨a, Nat.le_refl _, by omega, rfl, rfl, QH, HE.out.symm⟩
  case round =>
    clear QH
    obtain ⟨k, ka, hk, rfl, rfl, QH, hr⟩ := hrel
    by_cases q : k < s.size
    · have q' : (k : Int) < (s.size : Int) := by omega
      have xi := congrArg (fun c : UInt8 => (c.toNat : Int)) (bt_at q)
      cases x1 : leB (bt s k).toNat
      · cases x2 : dgB (bt s k).toNat
        · by_cases x3 : ((bt s k).toNat : Int) = 95
          · have x3' : (((bt s k).toNat : Int) == 95) = true := beq_iff_eq.2 x3
            have HX : Hid (k + 1 + runN (tl s (k + 1)) = E) := by
              have := hr.out
              rw [runN_cons q] at this
              rw [if_pos (by unfold nmB; simp_all)] at this
              show _ = _
              omega
            go_wp2_with (first | (go_at_call 13; refine (letter_any _ _).mono ?_; rintro e w5 ⟨rfl, rfl⟩) | (go_at_call 14; refine (digit_any _ _).mono ?_; rintro e w6 ⟨rfl, rfl⟩))
            go_roundg (s.size + 1 - (k + 1))
            case measure => omega
            case rel => exact ⟨k + 1, by omega, by omega, rfl, by rw [Int.natCast_add]; rfl, QH, HX⟩
          · have x3' : (((bt s k).toNat : Int) == 95) = false := beqf x3
            obtain rfl : E = k := by rw [← hr.out, runN_cons q, if_neg (by unfold nmB; simp_all)]; rfl
            have XB := QH.out.box 41 (.int .i64 1) (.string (s.extract a E)) (.int .i64 0) (.int .i64 (a : Nat))
            have lt := QH.out.lt
            go_upto_region 5 with (first | (go_at_call 13; refine (letter_any _ _).mono ?_; rintro e w5 ⟨rfl, rfl⟩) | (go_at_call 14; refine (digit_any _ _).mono ?_; rintro e w6 ⟨rfl, rfl⟩))
            have hne : w.heap.size ≠ wr.heap.size := by omega
            generalize wr.heap.size = q at *
            generalize wr.alloc (.cells #[.int .i64 1, .string (s.extract a E), .int .i64 0, .int .i64 (a : Nat)] 41) = w4 at *
            obtain ⟨X1, X2⟩ := XB
            have P1 : Hid _ := X1
            have P2 : Hid _ := X2
            obtain ⟨d0, d1, d2, d3, df, _, _⟩ := X2
            obtain ⟨c0, c1, c2, c3, cf, _, _⟩ := X1
            cases B with
            | false =>
              have LG : Hid _ := LG.out false rfl
              go_upto_region 7 with (go_at_call 41; with_reducible refine Calls.mono (KH.out _) ?_; rintro e w5 ⟨rfl, rfl⟩)
              go_wp2
              have X : Hid _ := P1.out.set (.int .i64 1) (.string (s.extract a E)) (.int .i64 0) (.int .i64 (a : Nat))
              clear c0 c1 c2 c3 cf d0 d1 d2 d3
              generalize ((((w4.setCell ⟨w.heap.size, 0, none⟩ (.int .i64 1)).setCell ⟨w.heap.size, 1, none⟩ (.string (s.extract a E))).setCell ⟨w.heap.size, 2, none⟩ (.int .i64 0)).setCell ⟨w.heap.size, 3, none⟩ (.int .i64 (a : Nat))) = W8 at *
              obtain ⟨t0, t1, t2, t3, _, tb, _⟩ := X.out
              exact bodyPost_ret (v := .tuple #[.agg #[.int .i64 1, .string (s.extract a E), .int .i64 0, .int .i64 (a : Nat)], .bool (decide ((E : Int) - (a : Int) ≤ 32))]) (by simp [results, Tryd.results22, go_sem, t0, t1, t2, t3]) rfl ⟨LG.out, tb⟩
            | true =>
              have LG : Hid _ := LG.out true rfl
              go_upto_region 7 with (go_at_call 41; with_reducible refine Calls.mono (KH.out _) ?_; rintro e w5 ⟨rfl, rfl⟩)
              clear c0 c1 c2 c3 cf d0 d1 d2 d3 df
              have Y1 := P1.out.off 0 (.int .i64 2) hne.symm (Nat.le_trans P1.out.ge (by omega))
              have Y2 := P2.out.set0 (.int .i64 2)
              generalize w4.setCell ⟨q, 0, none⟩ (.int .i64 2) = w4 at *
              clear P1 P2
              have P1 : Hid _ := Y1
              obtain ⟨d0, d1, d2, d3, df, _, _⟩ := Y2
              obtain ⟨c0, c1, c2, c3, cf, _, _⟩ := Y1
              go_wp2
              have X : Hid _ := P1.out.set (.int .i64 2) (.string (s.extract a E)) (.int .i64 0) (.int .i64 (a : Nat))
              clear c0 c1 c2 c3 cf d0 d1 d2 d3
              generalize ((((w4.setCell ⟨w.heap.size, 0, none⟩ (.int .i64 2)).setCell ⟨w.heap.size, 1, none⟩ (.string (s.extract a E))).setCell ⟨w.heap.size, 2, none⟩ (.int .i64 0)).setCell ⟨w.heap.size, 3, none⟩ (.int .i64 (a : Nat))) = W8 at *
              obtain ⟨t0, t1, t2, t3, _, tb, _⟩ := X.out
              exact bodyPost_ret (v := .tuple #[.agg #[.int .i64 2, .string (s.extract a E), .int .i64 0, .int .i64 (a : Nat)], .bool (decide ((E : Int) - (a : Int) ≤ 32))]) (by simp [results, Tryd.results22, go_sem, t0, t1, t2, t3]) rfl ⟨LG.out, tb⟩
        · skip
          have HX : Hid (k + 1 + runN (tl s (k + 1)) = E) := by
            have := hr.out
            rw [runN_cons q] at this
            rw [if_pos (by unfold nmB; simp_all)] at this
            show _ = _
            omega
          go_wp2_with (first | (go_at_call 13; refine (letter_any _ _).mono ?_; rintro e w5 ⟨rfl, rfl⟩) | (go_at_call 14; refine (digit_any _ _).mono ?_; rintro e w6 ⟨rfl, rfl⟩))
          go_roundg (s.size + 1 - (k + 1))
          case measure => omega
          case rel => exact ⟨k + 1, by omega, by omega, rfl, by rw [Int.natCast_add]; rfl, QH, HX⟩
      · skip
        have HX : Hid (k + 1 + runN (tl s (k + 1)) = E) := by
          have := hr.out
          rw [runN_cons q] at this
          rw [if_pos (by unfold nmB; simp_all)] at this
          show _ = _
          omega
        go_wp2_with (first | (go_at_call 13; refine (letter_any _ _).mono ?_; rintro e w5 ⟨rfl, rfl⟩) | (go_at_call 14; refine (digit_any _ _).mono ?_; rintro e w6 ⟨rfl, rfl⟩))
        go_roundg (s.size + 1 - (k + 1))
        case measure => omega
        case rel => exact ⟨k + 1, by omega, by omega, rfl, by rw [Int.natCast_add]; rfl, QH, HX⟩
    · have q' : ¬ (k : Int) < (s.size : Int) := by omega
      obtain rfl : E = k := by rw [← hr.out, tl_nil (by omega)]; rfl
      have XB := QH.out.box 41 (.int .i64 1) (.string (s.extract a E)) (.int .i64 0) (.int .i64 (a : Nat))
      have lt := QH.out.lt
      go_upto_region 5 with fail
      have hne : w.heap.size ≠ wr.heap.size := by omega
      generalize wr.heap.size = q at *
      generalize wr.alloc (.cells #[.int .i64 1, .string (s.extract a E), .int .i64 0, .int .i64 (a : Nat)] 41) = w4 at *
      obtain ⟨X1, X2⟩ := XB
      have P1 : Hid _ := X1
      have P2 : Hid _ := X2
      obtain ⟨d0, d1, d2, d3, df, _, _⟩ := X2
      obtain ⟨c0, c1, c2, c3, cf, _, _⟩ := X1
      cases B with
      | false =>
        have LG : Hid _ := LG.out false rfl
        go_upto_region 7 with (go_at_call 41; with_reducible refine Calls.mono (KH.out _) ?_; rintro e w5 ⟨rfl, rfl⟩)
        go_wp2
        have X : Hid _ := P1.out.set (.int .i64 1) (.string (s.extract a E)) (.int .i64 0) (.int .i64 (a : Nat))
        clear c0 c1 c2 c3 cf d0 d1 d2 d3
        generalize ((((w4.setCell ⟨w.heap.size, 0, none⟩ (.int .i64 1)).setCell ⟨w.heap.size, 1, none⟩ (.string (s.extract a E))).setCell ⟨w.heap.size, 2, none⟩ (.int .i64 0)).setCell ⟨w.heap.size, 3, none⟩ (.int .i64 (a : Nat))) = W8 at *
        obtain ⟨t0, t1, t2, t3, _, tb, _⟩ := X.out
        exact bodyPost_ret (v := .tuple #[.agg #[.int .i64 1, .string (s.extract a E), .int .i64 0, .int .i64 (a : Nat)], .bool (decide ((E : Int) - (a : Int) ≤ 32))]) (by simp [results, Tryd.results22, go_sem, t0, t1, t2, t3]) rfl ⟨LG.out, tb⟩
      | true =>
        have LG : Hid _ := LG.out true rfl
        go_upto_region 7 with (go_at_call 41; with_reducible refine Calls.mono (KH.out _) ?_; rintro e w5 ⟨rfl, rfl⟩)
        clear c0 c1 c2 c3 cf d0 d1 d2 d3 df
        have Y1 := P1.out.off 0 (.int .i64 2) hne.symm (Nat.le_trans P1.out.ge (by omega))
        have Y2 := P2.out.set0 (.int .i64 2)
        generalize w4.setCell ⟨q, 0, none⟩ (.int .i64 2) = w4 at *
        clear P1 P2
        have P1 : Hid _ := Y1
        obtain ⟨d0, d1, d2, d3, df, _, _⟩ := Y2
        obtain ⟨c0, c1, c2, c3, cf, _, _⟩ := Y1
        go_wp2
        have X : Hid _ := P1.out.set (.int .i64 2) (.string (s.extract a E)) (.int .i64 0) (.int .i64 (a : Nat))
        clear c0 c1 c2 c3 cf d0 d1 d2 d3
        generalize ((((w4.setCell ⟨w.heap.size, 0, none⟩ (.int .i64 2)).setCell ⟨w.heap.size, 1, none⟩ (.string (s.extract a E))).setCell ⟨w.heap.size, 2, none⟩ (.int .i64 0)).setCell ⟨w.heap.size, 3, none⟩ (.int .i64 (a : Nat))) = W8 at *
        obtain ⟨t0, t1, t2, t3, _, tb, _⟩ := X.out
        exact bodyPost_ret (v := .tuple #[.agg #[.int .i64 2, .string (s.extract a E), .int .i64 0, .int .i64 (a : Nat)], .bool (decide ((E : Int) - (a : Int) ≤ 32))]) (by simp [results, Tryd.results22, go_sem, t0, t1, t2, t3]) rfl ⟨LG.out, tb⟩
end Go.Proofs.YtobolipjgkabhaaDoor
