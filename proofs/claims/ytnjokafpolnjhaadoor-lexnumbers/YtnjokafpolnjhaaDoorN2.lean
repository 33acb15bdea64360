/- A number of any kind, written, is one word. -/
import Derived.Test.YtnjokafpolnjhaaDoorN1
namespace Go.Proofs.YtnjokafpolnjhaaDoor
set_option linter.unusedVariables false
set_option linter.unusedSimpArgs false

theorem cut_one {l : List UInt8} {c : UInt8} {r : List UInt8} {k v : Nat} (hl : l = c :: r) (hb : isBl c = false) (hh : c.toNat ≠ 35) (hw : wd l = some (k, l.length, v)) : cutF (tx l) 0 = ([(k, l.length, v, 0), (0, 0, 0, l.length)], none) := by
  have e : tl (tx l) 0 = l := by unfold tl tx; simp
  have sz : (tx l).size = l.length := by simp [tx, ByteArray.size]
  have h0 : 0 < (tx l).size := by rw [sz, hl]; simp
  have b0 : bt (tx l) 0 = c := by
    have h2 : bt (tx l) 0 :: tl (tx l) (0 + 1) = c :: r := by rw [← tl_cons h0, e]; exact hl
    injection h2 with h1 _
  rw [cutF_cons h0, b0, hb, if_neg hh, e, hw]
  simp only [Bool.false_eq_true, if_false]
  rw [cutF_end (by rw [sz]; omega), Nat.zero_add]
theorem dec_head (n : Nat) : ∃ c r, dec n = c :: r ∧ dgB c.toNat = true := by
  cases h : dec n with
  | nil => have := (dec_len n).1; rw [h] at this; simp at this
  | cons c r => exact ⟨c, r, rfl, dec_dig n c (by rw [h]; simp)⟩
theorem dig_plain {c : UInt8} (h : dgB c.toNat = true) : isBl c = false ∧ c.toNat ≠ 35 ∧ isLet c = false ∧ c.toNat ≠ 36 ∧ isDig c = true := by
  have := dgB_of h
  refine ⟨?_, by omega, ?_, by omega, h⟩
  · unfold isBl
    simp
    omega
  · unfold isLet
    simp
    omega
theorem wd_dig {c : UInt8} {r : List UInt8} (h : dgB c.toNat = true) : wd (c :: r) = numW (c :: r) := by
  obtain ⟨-, -, h1, h2, h3⟩ := dig_plain h
  show (if isLet c = true then namW (c :: r) else if c.toNat = 36 then monW (c :: r) else if isDig c = true then numW (c :: r) else sgnW (c :: r)) = _
  rw [h1, if_neg (by decide), if_neg h2, if_pos h3]
theorem num_count {l : List UInt8} (h : ∀ c ∈ l, dgB c.toNat = true) (hv : fig 0 l ≤ 4503599627370496) : numW l = some (3, l.length, fig 0 l) := by
  have r : runD l = l.length := by have := runD_all h [] rfl; rw [List.append_nil] at this; exact this
  have d : l.drop l.length = [] := List.drop_eq_nil_of_le (Nat.le_refl _)
  have e1 : dayW l = none := by
    cases x : dayW l with
    | none => rfl
    | some m =>
      obtain ⟨y1, y2⟩ := dayW_some x
      rw [← y1, r, d] at y2
      exact absurd y2 (by decide)
  have e2 : isPct l = false := by
    unfold isPct
    rw [r, d]
    have : pctW [] = 0 := by decide
    rw [this, Nat.add_zero, d]
    decide
  unfold numW
  rw [e1]
  dsimp only
  rw [e2, if_neg (by decide), r, List.take_of_length_le (Nat.le_refl _), if_pos hv]
theorem cut_count {n : Nat} (h : n ≤ 4503599627370496) : cutF (tx (dec n)) 0 = ([(3, (dec n).length, n, 0), (0, 0, 0, (dec n).length)], none) := by
  obtain ⟨c, r, e, hc⟩ := dec_head n
  obtain ⟨h1, h2, -⟩ := dig_plain hc
  have f := dec_fig h
  refine cut_one e h1 h2 ?_
  have : wd (dec n) = numW (dec n) := by rw [e]; exact wd_dig hc
  rw [this, num_count (dec_dig n) (by omega), f]

/-- digits with noughts ahead of them -/
def padL (k : Nat) (l : List UInt8) : List UInt8 := List.replicate (k - l.length) 48 ++ l
theorem padL_len {k : Nat} {l : List UInt8} (h : l.length ≤ k) : (padL k l).length = k := by unfold padL; simp; omega
theorem padL_dig {k : Nat} {l : List UInt8} (h : ∀ c ∈ l, dgB c.toNat = true) : ∀ c ∈ padL k l, dgB c.toNat = true := by
  intro c hc
  unfold padL at hc
  rcases List.mem_append.1 hc with x | x
  · rw [List.eq_of_mem_replicate x]; decide
  · exact h c x
theorem fig_zeros (j : Nat) : fig 0 (List.replicate j 48) = 0 := by
  induction j with
  | zero => rfl
  | succ j ih => exact ih
theorem padL_fig (k : Nat) (l : List UInt8) : fig 0 (padL k l) = fig 0 l := by
  unfold padL
  rw [fig_app, fig_zeros]
theorem drop_app (l m : List UInt8) : (l ++ m).drop l.length = m := by rw [List.drop_append_of_le_length (Nat.le_refl _), List.drop_eq_nil_of_le (Nat.le_refl _)]; rfl
theorem take_app (l m : List UInt8) : (l ++ m).take l.length = l := by rw [List.take_append_of_le_length (Nat.le_refl _), List.take_of_length_le (Nat.le_refl _)]
theorem runD_dot (m : List UInt8) : runD (46 :: m) = 0 := by unfold runD; rw [if_neg (by decide)]
theorem hd_dot (m : List UInt8) : hd (46 :: m) = 46 := rfl
theorem dotW_46 {m : List UInt8} (h : runD m ≠ 0) : dotW (46 :: m) = 1 + runD m := if_pos ⟨rfl, h⟩
theorem num_rate {q p : List UInt8} (hq : ∀ c ∈ q, dgB c.toNat = true) (hp : ∀ c ∈ p, dgB c.toNat = true) (l4 : p.length = 4) (hv : 10000 * fig 0 q + fig 0 p ≤ 1000000000000) : numW (q ++ 46 :: (p ++ [37])) = some (5, (q ++ 46 :: (p ++ [37])).length, 10000 * fig 0 q + fig 0 p) := by
  have r : runD (q ++ 46 :: (p ++ [37])) = q.length := runD_all hq _ (runD_dot _)
  have r2 : runD (p ++ [37]) = 4 := by rw [runD_all hp [37] (by decide), l4]
  have d := drop_app q (46 :: (p ++ [37]))
  have dw : dotW (46 :: (p ++ [37])) = 5 := by
    rw [dotW_46 (by omega), r2]
  have pw : pctW (46 :: (p ++ [37])) = 5 := by unfold pctW; rw [dw]; rfl
  have d5 : (46 :: (p ++ [37])).drop 5 = [37] := by
    show (p ++ [37]).drop 4 = [37]
    rw [← l4]; exact drop_app p [37]
  have e1 : dayW (q ++ 46 :: (p ++ [37])) = none := by
    cases x : dayW (q ++ 46 :: (p ++ [37])) with
    | none => rfl
    | some m =>
      obtain ⟨y1, y2⟩ := dayW_some x
      rw [← y1, r, d] at y2
      exact absurd y2 (by show ¬ (46 : UInt8).toNat = 45; decide)
  have e2 : isPct (q ++ 46 :: (p ++ [37])) = true := by
    unfold isPct
    rw [r, d, pw, ← List.drop_drop, d, d5]
    rfl
  have e3 : rateV (q ++ 46 :: (p ++ [37])) = 10000 * fig 0 q + fig 0 p := by
    unfold rateV
    rw [r, d, pw, take_app]
    have : List.drop 1 (List.take 5 (46 :: (p ++ [37]))) = p := by
      show (p ++ [37]).take 4 = p
      rw [← l4]; exact take_app p [37]
    rw [this, fig_pad, pad_done l4]
  unfold numW
  rw [e1]
  dsimp only
  rw [e2, if_pos rfl, e3, if_pos hv, r, d, pw]
  congr 2
  simp
  omega
theorem mon_word {q p : List UInt8} (hq : ∀ c ∈ q, dgB c.toNat = true) (hp : ∀ c ∈ p, dgB c.toNat = true) (hq1 : 1 ≤ q.length) (l2 : p.length = 2) (hv : 100 * fig 0 q + fig 0 p ≤ 4503599627370496) : monW (36 :: (q ++ 46 :: p)) = some (4, (36 :: (q ++ 46 :: p)).length, 100 * fig 0 q + fig 0 p) := by
  have r2 : runD p = 2 := by have := runD_all hp [] rfl; rw [List.append_nil] at this; omega
  have k : monK (36 :: (q ++ 46 :: p)) = q.length := by
    show runD (q ++ 46 :: p) = q.length
    exact runD_all hq _ (runD_dot _)
  have d : (36 :: (q ++ 46 :: p)).drop (1 + q.length) = 46 :: p := by
    rw [Nat.add_comm 1]
    exact drop_app q (46 :: p)
  have dw : dotW (46 :: p) = 3 := by
    rw [dotW_46 (by omega), r2]
  have e1 : monP (36 :: (q ++ 46 :: p)) = 3 := by unfold monP; rw [k, d, dw]; rfl
  have e2 : monV (36 :: (q ++ 46 :: p)) = 100 * fig 0 q + fig 0 p := by
    unfold monV
    rw [k, d, dw]
    have t1 : (List.drop 1 (36 :: (q ++ 46 :: p))).take q.length = q := take_app q _
    have t2 : List.drop 1 (List.take 3 (46 :: p)) = p := by
      show p.take 2 = p
      rw [List.take_of_length_le (by omega)]
    rw [t1, if_pos rfl, t2]
    exact fig_of2 _ _ l2
  unfold monW
  rw [k, e1, e2, if_neg (by omega), if_pos hv]
  congr 2
  simp
  omega
end Go.Proofs.YtnjokafpolnjhaaDoor
