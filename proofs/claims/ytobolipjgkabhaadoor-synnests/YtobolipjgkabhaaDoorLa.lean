/- How a text is cut, place by place. -/
import Derived.Test.YtobolipjgkabhaaDoorL9
namespace Go.Proofs.YtobolipjgkabhaaDoor
set_option linter.unusedVariables false
set_option linter.unusedSimpArgs false

theorem dotW_le (l : List UInt8) : dotW l ≤ l.length := by
  unfold dotW
  split
  · rename_i h
    have := runD_le (l.drop 1)
    simp at this
    cases l with
    | nil => exact absurd h.1 (by decide)
    | cons c l => simp at this ⊢; omega
  · omega
theorem numW_len {l : List UInt8} {k n v : Nat} (h : numW l = some (k, n, v)) (hl : runD l ≠ 0) : 1 ≤ n ∧ n ≤ l.length := by
  have r := runD_le l
  unfold numW at h
  cases hD : dayW l with
  | some m =>
    rw [hD] at h
    simp at h
    obtain ⟨-, rfl, -⟩ := h
    unfold dayW at hD
    split at hD
    · simp
    · cases hD
  | none =>
    rw [hD] at h
    dsimp only at h
    split at h
    · rename_i hp
      split at h
      · simp at h
        obtain ⟨-, rfl, -⟩ := h
        unfold isPct at hp
        simp only [decide_eq_true_eq] at hp
        refine ⟨by omega, ?_⟩
        rcases Nat.lt_or_ge (runD l + pctW (l.drop (runD l))) l.length with x | x
        · omega
        · rw [List.drop_eq_nil_iff.2 x] at hp; exact absurd hp (by decide)
      · cases h
    · split at h
      · simp at h
        obtain ⟨-, rfl, -⟩ := h
        omega
      · cases h
theorem monW_len {l : List UInt8} {k n v : Nat} (h : monW l = some (k, n, v)) : 1 ≤ n ∧ n ≤ l.length := by
  unfold monW at h
  split at h
  · cases h
  · rename_i hk
    split at h
    · simp at h
      obtain ⟨-, rfl, -⟩ := h
      have r := runD_le (l.drop 1)
      have d := dotW_le (l.drop (1 + monK l))
      rw [List.length_drop] at r d
      unfold monP
      have hk' : monK l ≤ l.length - 1 := r
      generalize monK l = K at *
      refine ⟨by omega, ?_⟩
      split
      · rename_i h3
        rw [h3] at d
        omega
      · omega
    · cases h
theorem namW_len {c : UInt8} {l : List UInt8} {k n v : Nat} (h : namW (c :: l) = some (k, n, v)) (hc : isLet c = true) : 1 ≤ n ∧ n ≤ (c :: l).length := by
  unfold namW at h
  split at h
  · simp at h
    obtain ⟨-, rfl, -⟩ := h
    refine ⟨?_, runN_le _⟩
    unfold runN
    rw [if_pos (by unfold isNm; rw [hc]; rfl)]
    omega
  · cases h
theorem sgnW_len {c : UInt8} {l : List UInt8} {k n v : Nat} (h : sgnW (c :: l) = some (k, n, v)) : 1 ≤ n ∧ n ≤ (c :: l).length := by
  unfold sgnW at h
  split at h
  · cases h
  · rename_i h0
    simp at h
    obtain ⟨-, rfl, -⟩ := h
    refine ⟨by omega, ?_⟩
    unfold sgnN
    split
    · rename_i h2
      cases l with
      | nil => exact absurd h2 (by unfold two2; simp [hd])
      | cons d l => simp
    · split <;> simp
theorem wd_len {l : List UInt8} {k n v : Nat} (h : wd l = some (k, n, v)) : 1 ≤ n ∧ n ≤ l.length := by
  cases l with
  | nil => cases h
  | cons c l =>
    change (if isLet c = true then namW (c :: l) else if c.toNat = 36 then monW (c :: l) else if isDig c = true then numW (c :: l) else sgnW (c :: l)) = _ at h
    split at h
    · exact namW_len h (by assumption)
    · split at h
      · exact monW_len h
      · split at h
        · rename_i hd
          exact numW_len h (by unfold runD; rw [if_pos hd]; omega)
        · exact sgnW_len h
theorem runC_le (l : List UInt8) : runC l ≤ l.length := by
  induction l with
  | nil => exact Nat.le_refl _
  | cons c l ih =>
    unfold runC
    split
    · simp
    · simp; omega
theorem cutG_nil (f a : Nat) : cutG f a [] = ([(0, 0, 0, a)], none) := by cases f <;> rfl
theorem cutG_fuel (f : Nat) : ∀ (a : Nat) (l : List UInt8), l.length ≤ f → cutG f a l = cutG l.length a l := by
  induction f using Nat.strongRecOn with
  | ind f ih =>
    intro a l h
    cases l with
    | nil => rw [cutG_nil]; rfl
    | cons c l =>
      cases f with
      | zero => simp at h
      | succ f =>
        have h' : l.length ≤ f := by simpa using h
        show cutG (f + 1) a (c :: l) = cutG (l.length + 1) a (c :: l)
        unfold cutG
        by_cases b : isBl c = true
        · rw [if_pos b, if_pos b]
          exact ih f (by omega) _ _ h'
        · rw [if_neg b, if_neg b]
          by_cases e : c.toNat = 35
          · rw [if_pos e, if_pos e]
            have r : (List.drop (runC (c :: l)) (c :: l)).length ≤ l.length := by
              have : 1 ≤ runC (c :: l) := by unfold runC; rw [if_neg (by omega)]; omega
              simp; omega
            rw [ih f (by omega) _ _ (by omega)]
            rcases Nat.lt_or_ge l.length f with y | y
            · rw [ih l.length (by omega) _ _ r]
            · obtain rfl : f = l.length := by omega
              rw [ih l.length (by omega) _ _ r]
          · rw [if_neg e, if_neg e]
            cases hw : wd (c :: l) with
            | none => rfl
            | some x =>
              obtain ⟨k, n, v⟩ := x
              have hn := wd_len hw
              have r : (List.drop n (c :: l)).length ≤ l.length := by simp; omega
              dsimp only
              rw [ih f (by omega) _ _ (by omega)]
              rcases Nat.lt_or_ge l.length f with y | y
              · rw [ih l.length (by omega) _ _ r]
              · obtain rfl : f = l.length := by omega
                rw [ih l.length (by omega) _ _ r]
theorem cutF_is (s : ByteArray) (a f : Nat) (h : s.size ≤ a + f) : cutG f a (tl s a) = cutF s a := by
  unfold cutF
  have e : (tl s a).length = s.size - a := tl_len s a
  rw [cutG_fuel f a _ (by omega), e]
theorem cutF_end {s : ByteArray} {a : Nat} (h : s.size ≤ a) : cutF s a = ([(0, 0, 0, a)], none) := by
  unfold cutF
  rw [tl_nil h]
  exact cutG_nil _ _
theorem cutF_cons {s : ByteArray} {a : Nat} (h : a < s.size) : cutF s a = if isBl (bt s a) then cutF s (a + 1) else if (bt s a).toNat = 35 then cutF s (a + runC (tl s a))
    else match wd (tl s a) with
      | none => ([], some a)
      | some (k, n, v) => match cutF s (a + n) with
        | (r, none) => ((k, n, v, a) :: r, none)
        | (r, some b) => ([], some b) := by
  have e : s.size - a = (s.size - (a + 1)) + 1 := by omega
  have hc := tl_cons h
  conv => lhs; unfold cutF; rw [e, hc]
  unfold cutG
  rw [cutF_is s (a + 1) _ (by omega), ← hc, tl_drop]
  by_cases b : isBl (bt s a) = true
  · rw [if_pos b, if_pos b]
  · rw [if_neg b, if_neg b]
    by_cases x : (bt s a).toNat = 35
    · rw [if_pos x, if_pos x]
      refine cutF_is s _ _ ?_
      have : 1 ≤ runC (tl s a) := by rw [hc]; unfold runC; rw [if_neg (by omega)]; omega
      omega
    · rw [if_neg x, if_neg x]
      cases hw : wd (tl s a) with
      | none => rfl
      | some y =>
        obtain ⟨k, n, v⟩ := y
        dsimp only
        rw [tl_drop, cutF_is s _ _ (by have := wd_len hw; omega)]
        rfl
/-- What has been cut so far, and what is left. -/
def Jn (s : ByteArray) (R : List (Nat × Nat × Nat × Nat)) (a : Nat) : Prop :=
  match cutF s a with
  | (r, none) => cutF s 0 = (R ++ r, none)
  | (_, some b) => cutF s 0 = ([], some b)
theorem Jn.start (s : ByteArray) : Jn s [] 0 := by
  unfold Jn
  cases h : cutF s 0 with
  | mk r o =>
    cases o with
    | none => rfl
    | some b =>
      show (r, some b) = ([], some b)
      suffices hh : ∀ f a l r b, cutG f a l = (r, some b) → r = [] by rw [hh _ _ _ _ _ h]
      intro f
      induction f with
      | zero => intro a l r b h; cases h
      | succ f ih =>
        intro a l r b h
        cases l with
        | nil => cases h
        | cons c l =>
          unfold cutG at h
          split at h
          · exact ih _ _ _ _ h
          · split at h
            · exact ih _ _ _ _ h
            · split at h
              · injection h with h1 h2; exact h1.symm
              · split at h
                · cases h
                · injection h with h1 h2; exact h1.symm
theorem Jn.skip {s : ByteArray} {R : List (Nat × Nat × Nat × Nat)} {a b : Nat} (h : Jn s R a) (e : cutF s a = cutF s b) : Jn s R b := by
  unfold Jn at *
  rw [← e]
  exact h
theorem Jn.blank {s : ByteArray} {R : List (Nat × Nat × Nat × Nat)} {a : Nat} (h : Jn s R a) (ha : a < s.size) (b : isBl (bt s a) = true) : Jn s R (a + 1) :=
  h.skip (by rw [cutF_cons ha, if_pos b])
theorem Jn.hash {s : ByteArray} {R : List (Nat × Nat × Nat × Nat)} {a : Nat} (h : Jn s R a) (ha : a < s.size) (b : (bt s a).toNat = 35) : Jn s R (a + runC (tl s a)) :=
  h.skip (by rw [cutF_cons ha, if_neg (by unfold isBl; rw [b]; decide), if_pos b])
theorem Jn.word {s : ByteArray} {R : List (Nat × Nat × Nat × Nat)} {a k n v : Nat} (h : Jn s R a) (ha : a < s.size) (b : isBl (bt s a) = false) (c : (bt s a).toNat ≠ 35) (hw : wd (tl s a) = some (k, n, v)) : Jn s (R ++ [(k, n, v, a)]) (a + n) := by
  have e := cutF_cons ha
  rw [b, hw, if_neg c] at e
  simp only [Bool.false_eq_true, if_false] at e
  unfold Jn at *
  rw [e] at h
  cases hc : cutF s (a + n) with
  | mk r o =>
    rw [hc] at h
    cases o with
    | none => simpa using h
    | some q => exact h
theorem Jn.bad {s : ByteArray} {R : List (Nat × Nat × Nat × Nat)} {a : Nat} (h : Jn s R a) (ha : a < s.size) (b : isBl (bt s a) = false) (c : (bt s a).toNat ≠ 35) (hw : wd (tl s a) = none) : cutF s 0 = ([], some a) := by
  have e := cutF_cons ha
  rw [b, hw, if_neg c] at e
  simp only [Bool.false_eq_true, if_false] at e
  unfold Jn at h
  rw [e] at h
  exact h
theorem Jn.fin {s : ByteArray} {R : List (Nat × Nat × Nat × Nat)} {a : Nat} (h : Jn s R a) (ha : s.size ≤ a) : cutF s 0 = (R ++ [(0, 0, 0, a)], none) := by
  unfold Jn at h
  rw [cutF_end ha] at h
  exact h
end Go.Proofs.YtobolipjgkabhaaDoor
