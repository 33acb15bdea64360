/- Words that begin with digits: what they are, by the places where their parts end. -/
import Derived.Test.YtobolipjgkabhaaDoorL6
import Derived.Test.YtobolipjgkabhaaDoorL5
namespace Go.Proofs.YtobolipjgkabhaaDoor
open Go.RowKit
set_option linter.unusedVariables false
set_option linter.unusedSimpArgs false

theorem take_dot (l : List UInt8) : ∀ c ∈ (l.take (pctW l)).drop 1, dgB c.toNat = true := by
  unfold pctW
  split
  · unfold dotW
    split
    · rw [List.drop_take, show ∀ n, 1 + n - 1 = n from fun n => by omega]
      exact runD_dig (l.drop 1) _ (Nat.le_refl _)
    · intro c hc; simp at hc
  · intro c hc; simp at hc
theorem pctW_le (l : List UInt8) : pctW l ≤ 5 := by unfold pctW; split <;> omega
theorem pad_dig {l : List UInt8} (h : ∀ c ∈ l, dgB c.toNat = true) : AllD (tx (pad4 l)) := by
  intro c hc
  have hc : c ∈ pad4 l := by simpa [tx] using hc
  unfold pad4 at hc
  have hc := List.mem_of_mem_take hc
  rw [List.mem_append] at hc
  rcases hc with x | x
  · exact h c x
  · simp at x; subst x; decide
def partB (s : ByteArray) (E : Nat) : List UInt8 := pad4 (((tl s E).take (pctW (tl s E))).drop 1)
theorem partB_dig (s : ByteArray) (E : Nat) : AllD (tx (partB s E)) := pad_dig (take_dot _)
theorem partB_size (s : ByteArray) (E : Nat) : (tx (partB s E)).size = 4 := by
  unfold partB pad4
  simp [tx, ByteArray.size]
theorem behind_ext (s : ByteArray) (E : Nat) (w : World) (hE : E ≤ s.size) : Calls Tryd.prog 28 #[.string (s.extract E (pctE s E))] w fun e w' => e = .returned (.string (tx (partB s E))) ∧ w = w' := by
  rw [ext_is, show pctE s E - E = pctW (tl s E) by unfold pctE; omega]
  exact behind_any _ w (by have := pctW_le (tl s E); simp; omega)
theorem rate_v (s : ByteArray) (a : Nat) : figN (figN 0 (s.extract a (dEnd s a))) (tx (partB s (dEnd s a))) = sat (rateV (tl s a)) := by
  rw [figN_ext, show dEnd s a - a = runD (tl s a) by unfold dEnd; omega]
  unfold rateV partB
  rw [tl_drop]
  show sat (fig (sat _) _) = _
  rw [fig_sat]
  rfl
theorem isPct_is (s : ByteArray) (a : Nat) : isPct (tl s a) = pctB s (dEnd s a) := by
  unfold isPct pctB pctE
  rw [tl_drop, tl_drop]
  unfold dEnd
  rw [Nat.add_assoc]
theorem rate_len (s : ByteArray) (a : Nat) : a + (runD (tl s a) + pctW ((tl s a).drop (runD (tl s a))) + 1) = pctE s (dEnd s a) + 1 := by
  rw [tl_drop]
  unfold pctE dEnd
  omega
theorem numW_rate {s : ByteArray} {a : Nat} (h : dayW (tl s a) = none) (hp : pctB s (dEnd s a) = true) :
    LgP s a (numW (tl s a)) (.returned (.tuple #[.agg #[.int .i64 5, .string (s.extract a (pctE s (dEnd s a) + 1)), .int .i64 (figN (figN 0 (s.extract a (dEnd s a))) (tx (partB s (dEnd s a))) : Nat), .int .i64 (a : Nat)], .bool (decide (((figN (figN 0 (s.extract a (dEnd s a))) (tx (partB s (dEnd s a))) : Nat) : Int) ≤ 1000000000000))])) := by
  unfold numW
  rw [h, isPct_is, hp]
  dsimp only
  rw [if_pos rfl]
  have q := figN_small (rate_v s a) (m := 1000000000000) (by omega)
  by_cases y : rateV (tl s a) ≤ 1000000000000
  · have y2 : decide (((figN (figN 0 (s.extract a (dEnd s a))) (tx (partB s (dEnd s a))) : Nat) : Int) ≤ 1000000000000) = true := decide_eq_true (by have := q.1.2 y; omega)
    rw [if_pos y, y2, q.2 y]
    show _ = _
    rw [rate_len]
    rfl
  · have y2 : decide (((figN (figN 0 (s.extract a (dEnd s a))) (tx (partB s (dEnd s a))) : Nat) : Int) ≤ 1000000000000) = false := decide_eq_false (by have := fun h => y (q.1.1 h); omega)
    rw [if_neg y, y2]
    exact ⟨_, _, _, _, rfl⟩
theorem numW_count {s : ByteArray} {a : Nat} (h : dayW (tl s a) = none) (hp : pctB s (dEnd s a) = false) :
    LgP s a (numW (tl s a)) (.returned (.tuple #[.agg #[.int .i64 3, .string (s.extract a (dEnd s a)), .int .i64 (figN 0 (s.extract a (dEnd s a)) : Nat), .int .i64 (a : Nat)], .bool (decide (((figN 0 (s.extract a (dEnd s a)) : Nat) : Int) ≤ 4503599627370496))])) := by
  unfold numW
  rw [h, isPct_is, hp]
  dsimp only
  rw [if_neg (by decide)]
  have e : figN 0 (s.extract a (dEnd s a)) = sat (fig 0 ((tl s a).take (runD (tl s a)))) := by rw [figN_ext, show dEnd s a - a = runD (tl s a) by unfold dEnd; omega]
  have q := figN_small e (m := 4503599627370496) (by omega)
  by_cases y : fig 0 ((tl s a).take (runD (tl s a))) ≤ 4503599627370496
  · have y2 : decide (((figN 0 (s.extract a (dEnd s a)) : Nat) : Int) ≤ 4503599627370496) = true := decide_eq_true (by have := q.1.2 y; omega)
    rw [if_pos y, y2, q.2 y]
    rfl
  · have y2 : decide (((figN 0 (s.extract a (dEnd s a)) : Nat) : Int) ≤ 4503599627370496) = false := decide_eq_false (by have := fun h => y (q.1.1 h); omega)
    rw [if_neg y, y2]
    exact ⟨_, _, _, _, rfl⟩
end Go.Proofs.YtobolipjgkabhaaDoor
