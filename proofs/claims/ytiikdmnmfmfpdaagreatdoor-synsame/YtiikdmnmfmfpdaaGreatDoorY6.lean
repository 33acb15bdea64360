/- Moneys as the reference reads them; the reference's Cut: what it answers. -/
import Derived.Test.YtiikdmnmfmfpdaaGreatDoorY4
import Derived.Test.YtiikdmnmfmfpdaaGreatDoorY3
namespace Go.Proofs.YtiikdmnmfmfpdaaGreatDoor
open Go.RowKit
set_option linter.unusedVariables false
set_option linter.unusedSimpArgs false

def mtV (x : Nat) : Nat := if x ≤ 4503599627370496 then x else 0
def mtB (x : Nat) : Bool := decide (x ≤ 4503599627370496)
/-- cents stand behind the whole part that ends at E -/
def cB (s : ByteArray) (K E : Nat) : Bool := decide (0 < K ∧ E < s.size ∧ (bt s E).toNat = 46 ∧ rnN s (E + 1) = 2)
def mC (s : ByteArray) (K E : Nat) : ByteArray := if cB s K E then s.extract (E + 1) (E + 3) else ⟨#[]⟩
def mX (s : ByteArray) (a K : Nat) : Nat := 100 * fg (s.extract (a + 1) (a + 1 + K)) + fg (mC s K (a + 1 + K))
theorem dot3_iff (s : ByteArray) (E : Nat) : dotW (tl s E) = 3 ↔ (E < s.size ∧ (bt s E).toNat = 46 ∧ rnN s (E + 1) = 2) := by
  by_cases q : E < s.size
  · have e : dotW (tl s E) = if (bt s E).toNat = 46 ∧ rnN s (E + 1) ≠ 0 then 1 + rnN s (E + 1) else 0 := by
      rw [tl_cons q]
      rfl
    rw [e]
    by_cases c : (bt s E).toNat = 46 ∧ rnN s (E + 1) ≠ 0
    · rw [if_pos c]
      constructor
      · intro h; exact ⟨q, c.1, by omega⟩
      · intro h; have := h.2.2; omega
    · rw [if_neg c]
      constructor
      · intro h; omega
      · intro h; exact absurd ⟨h.2.1, by omega⟩ c
  · rw [tl_nil (by omega)]
    constructor
    · intro h; exact absurd h (by decide)
    · intro h; exact absurd h.1 q
theorem mC_dig (s : ByteArray) (K E : Nat) : AllD (mC s K E) ∧ fg (mC s K E) ≤ 99 ∧ (mC s K E).size < 9000000000000000000 := by
  unfold mC
  cases h : cB s K E
  · refine ⟨fun c hc => by simp at hc, ?_, by show (⟨#[]⟩ : ByteArray).size < _; decide⟩
    show fig 0 [] ≤ 99
    decide
  · obtain ⟨-, q, -, r⟩ := of_decide_eq_true h
    have d : E + 1 + rnN s (E + 1) = E + 3 := by omega
    have ad : AllD (s.extract (E + 1) (E + 3)) := allD_ext (by rw [dEnd_rn]; omega)
    have le : E + 3 ≤ s.size := by have := dEnd_le (s := s) (a := E + 1) (by omega); rw [dEnd_rn] at this; omega
    refine ⟨ad, ?_, ?_⟩
    · have key : ∀ c ∈ (tl s (E + 1)).take 2, c.toNat ≤ 57 := by
        intro c hc
        have : dgB c.toNat = true := ad c (by rw [ext_data]; exact (by rw [show E + 3 - (E + 1) = 2 by omega]; exact hc))
        have := (dgB_of this).2
        omega
      have hl : ((tl s (E + 1)).take 2).length = 2 := by rw [List.length_take, tl_len]; omega
      have := fig_lt _ 0 key
      rw [hl] at this
      show fg (s.extract (E + 1) (E + 3)) ≤ 99
      rw [fg_ext, show E + 3 - (E + 1) = 2 by omega]
      omega
    · show (s.extract (E + 1) (E + 3)).size < _
      rw [ByteArray.size_extract]
      omega
theorem monY_v {s : ByteArray} {a : Nat} (ha : a < s.size) (hK : rnN s (a + 1) ≠ 0) : monV (tl s a) = mX s a (rnN s (a + 1)) ∧ 1 + monK (tl s a) + monP (tl s a) = 1 + rnN s (a + 1) + (if cB s (rnN s (a + 1)) (a + 1 + rnN s (a + 1)) then 3 else 0) := by
  have k : monK (tl s a) = rnN s (a + 1) := by unfold monK rnN; rw [tl_drop]
  have d : (tl s a).drop (1 + rnN s (a + 1)) = tl s (a + 1 + rnN s (a + 1)) := by rw [tl_drop]; congr 1; omega
  have i3 := dot3_iff s (a + 1 + rnN s (a + 1))
  have iff : (dotW (tl s (a + 1 + rnN s (a + 1))) = 3) ↔ cB s (rnN s (a + 1)) (a + 1 + rnN s (a + 1)) = true := by
    unfold cB
    rw [decide_eq_true_iff, i3]
    constructor
    · intro h; exact ⟨by omega, h⟩
    · intro h; exact h.2
  constructor
  · unfold monV mX mC
    rw [k, d, tl_drop, fg_ext, show a + 1 + rnN s (a + 1) - (a + 1) = rnN s (a + 1) by omega]
    by_cases c : dotW (tl s (a + 1 + rnN s (a + 1))) = 3
    · have q := i3.1 c
      have le : a + 1 + rnN s (a + 1) + 3 ≤ s.size := by have := dEnd_le (s := s) (a := a + 1 + rnN s (a + 1) + 1) (by omega); rw [dEnd_rn] at this; omega
      rw [if_pos c, if_pos (iff.1 c), fg_ext, List.drop_take, tl_drop, show a + 1 + rnN s (a + 1) + 3 - (a + 1 + rnN s (a + 1) + 1) = 2 by omega]
      exact fig_of2 _ _ (by rw [List.length_take, tl_len]; omega)
    · rw [if_neg c, if_neg (fun x => c (iff.2 x))]
      exact fig_of2 _ [48, 48] rfl
  · unfold monP
    rw [k, d]
    by_cases c : dotW (tl s (a + 1 + rnN s (a + 1))) = 3
    · rw [if_pos c, if_pos (iff.1 c)]
    · rw [if_neg c, if_neg (fun x => c (iff.2 x))]
theorem monY_0 {s : ByteArray} {a : Nat} (h : rnN s (a + 1) = 0) : monW (tl s a) = none := by
  unfold monW
  rw [if_pos]
  unfold monK
  rw [tl_drop]
  exact h
theorem monY_yes {s : ByteArray} {a : Nat} (ha : a < s.size) (hK : rnN s (a + 1) ≠ 0) (hB : mtB (mX s a (rnN s (a + 1))) = true) : monW (tl s a) = some (4, 1 + rnN s (a + 1) + (if cB s (rnN s (a + 1)) (a + 1 + rnN s (a + 1)) then 3 else 0), mtV (mX s a (rnN s (a + 1)))) := by
  obtain ⟨e1, e2⟩ := monY_v ha hK
  have k : monK (tl s a) = rnN s (a + 1) := by unfold monK rnN; rw [tl_drop]
  have hB : mX s a (rnN s (a + 1)) ≤ 4503599627370496 := of_decide_eq_true hB
  unfold monW mtV
  rw [if_neg (by omega), e1, e2, if_pos hB, if_pos hB]
theorem monY_no {s : ByteArray} {a : Nat} (ha : a < s.size) (hK : rnN s (a + 1) ≠ 0) (hB : mtB (mX s a (rnN s (a + 1))) = false) : monW (tl s a) = none := by
  obtain ⟨e1, e2⟩ := monY_v ha hK
  have hB : ¬ mX s a (rnN s (a + 1)) ≤ 4503599627370496 := of_decide_eq_false hB
  unfold monW
  rw [e1, if_neg hB]
  split <;> rfl
theorem ymon_at (s : ByteArray) (a : Nat) (w : World) (ha : a < s.size) (hs : s.size < 9000000000000000) : Calls Tryz.prog 36 #[.string (s.extract (a + 1) (a + 1 + rnN s (a + 1))), .string (mC s (rnN s (a + 1)) (a + 1 + rnN s (a + 1)))] w fun e w' => e = .returned (.tuple #[.int .i64 (mtV (mX s a (rnN s (a + 1))) : Nat), .bool (mtB (mX s a (rnN s (a + 1))))]) ∧ w = w' := by
  obtain ⟨h1, h2, h3⟩ := mC_dig s (rnN s (a + 1)) (a + 1 + rnN s (a + 1))
  exact ymoney_any _ _ w (allD_ext (Nat.le_refl _)) h1 h2 (by rw [ByteArray.size_extract]; omega) h3
/-- What the reference's Cut answers. -/
def CutY (s : ByteArray) (w : World) (e : Ending) (w' : World) : Prop := Below w.heap.size w w' ∧
  match cutF s 0 with
  | (R, none) => ∃ v, e = .returned (.tuple #[v, .int .i64 (-1)]) ∧ Rw w' w.heap.size 59 s v R
  | (_, some b) => e = .returned (.tuple #[.slice none 0 0, .int .i64 (b : Nat)])
end Go.Proofs.YtiikdmnmfmfpdaaGreatDoor
