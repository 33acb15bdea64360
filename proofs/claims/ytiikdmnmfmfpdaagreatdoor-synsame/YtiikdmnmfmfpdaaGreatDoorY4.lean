/- Words that begin with digits, as the reference reads them: plain facts. -/
import Derived.Test.YtiikdmnmfmfpdaaGreatDoorY2
namespace Go.Proofs.YtiikdmnmfmfpdaaGreatDoor
open Go.RowKit
set_option linter.unusedVariables false
set_option linter.unusedSimpArgs false

/-- What the reference's digits answers. -/
def LgY (s : ByteArray) (a : Nat) (o : Option (Nat × Nat × Nat)) (e : Ending) : Prop :=
  match o with
  | some (k, n, v) => e = .returned (.tuple #[.agg #[.int .i64 (k : Nat), .string (s.extract a (a + n)), .int .i64 (v : Nat), .int .i64 (a : Nat)], .int .i64 (n : Nat)])
  | none => ∃ k t n b, e = .returned (.tuple #[.agg #[.int .i64 k, .string t, .int .i64 n, .int .i64 b], .int .i64 0])
theorem dEnd_rn (s : ByteArray) (a : Nat) : dEnd s a = a + rnN s a := rfl
theorem fg_ext (s : ByteArray) (a e : Nat) : fg (s.extract a e) = fig 0 ((tl s a).take (e - a)) := by
  unfold fg
  have : tl (s.extract a e) 0 = (tl s a).take (e - a) := by show (s.extract a e).data.toList.drop 0 = _; rw [List.drop_zero, ext_data]; rfl
  rw [this]
/-- the part behind the dot, if it is one to four digits -/
def prt (s : ByteArray) (E : Nat) : List UInt8 := ((tl s E).take (pctW (tl s E))).drop 1
theorem prt_len (s : ByteArray) (E : Nat) : (prt s E).length ≤ 4 := by
  have := pctW_le (tl s E)
  unfold prt
  simp
  omega
theorem prt_dig (s : ByteArray) (E : Nat) : ∀ c ∈ prt s E, dgB c.toNat = true := take_dot _
theorem prt_none {s : ByteArray} {E : Nat} (h : pctE s E = E) : prt s E = [] := by
  have e : pctW (tl s E) = 0 := by unfold pctE at h; omega
  unfold prt
  rw [e]
  rfl
theorem prt_some {s : ByteArray} {E : Nat} (h : pctE s E ≠ E) : s.extract (E + 1) (pctE s E) = tx (prt s E) := by
  rw [ext_is]
  unfold prt
  rw [List.drop_take, tl_drop, show pctE s E - (E + 1) = pctW (tl s E) - 1 by unfold pctE; omega]
theorem rate_is (s : ByteArray) (a : Nat) : rateV (tl s a) = 10000 * fg (s.extract a (dEnd s a)) + fig 0 (pad4 (prt s (dEnd s a))) := by
  unfold rateV prt
  rw [tl_drop, fig_pad, fg_ext, show dEnd s a - a = runD (tl s a) by unfold dEnd; omega]
  rfl
theorem numY_rate {s : ByteArray} {a : Nat} (h : dayW (tl s a) = none) (hp : pctB s (dEnd s a) = true) (hv : rtB (rateV (tl s a)) = true) :
    numW (tl s a) = some (5, pctE s (dEnd s a) + 1 - a, rtV (rateV (tl s a))) := by
  have hv : rateV (tl s a) ≤ 1000000000000 := of_decide_eq_true hv
  unfold numW
  rw [h, isPct_is, hp]
  dsimp only
  rw [if_pos rfl, if_pos hv]
  have := rate_len s a
  unfold rtV
  rw [if_pos hv, show pctE s (dEnd s a) + 1 - a = runD (tl s a) + pctW ((tl s a).drop (runD (tl s a))) + 1 by omega]
theorem numY_rate_no {s : ByteArray} {a : Nat} (h : dayW (tl s a) = none) (hp : pctB s (dEnd s a) = true) (hv : rtB (rateV (tl s a)) = false) : numW (tl s a) = none := by
  have hv : ¬ rateV (tl s a) ≤ 1000000000000 := of_decide_eq_false hv
  unfold numW
  rw [h, isPct_is, hp]
  dsimp only
  rw [if_pos rfl, if_neg hv]
theorem numY_count {s : ByteArray} {a : Nat} (h : dayW (tl s a) = none) (hp : pctB s (dEnd s a) = false) (hv : nB 4503599627370496 (s.extract a (dEnd s a)) = true) :
    numW (tl s a) = some (3, rnN s a, nV 4503599627370496 (s.extract a (dEnd s a))) := by
  have hv : fg (s.extract a (dEnd s a)) ≤ 4503599627370496 := of_decide_eq_true hv
  have e := fg_ext s a (dEnd s a)
  rw [show dEnd s a - a = runD (tl s a) by unfold dEnd; omega] at e
  unfold numW nV
  rw [h, isPct_is, hp]
  dsimp only
  rw [if_neg (by decide), ← e, if_pos hv, if_pos hv]
  rfl
theorem numY_count_no {s : ByteArray} {a : Nat} (h : dayW (tl s a) = none) (hp : pctB s (dEnd s a) = false) (hv : nB 4503599627370496 (s.extract a (dEnd s a)) = false) : numW (tl s a) = none := by
  have hv : ¬ fg (s.extract a (dEnd s a)) ≤ 4503599627370496 := of_decide_eq_false hv
  have e := fg_ext s a (dEnd s a)
  rw [show dEnd s a - a = runD (tl s a) by unfold dEnd; omega] at e
  unfold numW
  rw [h, isPct_is, hp]
  dsimp only
  rw [if_neg (by decide), ← e, if_neg hv]
/-- what the reference sees of a dot -/
theorem pct_nodot {s : ByteArray} {E : Nat} (h : ¬ (E < s.size ∧ (bt s E).toNat = 46)) : pctE s E = E := by
  rw [pctE_is]
  by_cases q : E < s.size
  · rw [dotE_no q (fun x => h ⟨q, x⟩), if_pos (by omega)]
  · rw [dotE_nil (by omega), if_pos (by omega)]
theorem pct_dot {s : ByteArray} {E : Nat} (q : E < s.size) (d : (bt s E).toNat = 46) : pctE s E = if 1 ≤ rnN s (E + 1) ∧ rnN s (E + 1) ≤ 4 then E + 1 + rnN s (E + 1) else E := by
  rw [pctE_is, dotE_yes q d, dEnd_rn]
  generalize rnN s (E + 1) = r
  by_cases z : r = 0
  · have e : (if E + 1 + r = E + 1 then E else E + 1 + r) = E := if_pos (by omega)
    rw [e, if_pos (by omega), if_neg (by omega)]
  · have e : (if E + 1 + r = E + 1 then E else E + 1 + r) = E + 1 + r := if_neg (by omega)
    rw [e]
    by_cases y : r ≤ 4
    · rw [if_pos (by omega), if_pos (by omega)]
    · rw [if_neg (by omega), if_neg (by omega)]
end Go.Proofs.YtiikdmnmfmfpdaaGreatDoor
