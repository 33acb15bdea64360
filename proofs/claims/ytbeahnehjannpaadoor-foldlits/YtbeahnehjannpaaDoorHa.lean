/- Plain mathematics for the statements over package num: clipped numbers, two limbs. No program in it. -/
import Derived.RowKit
import Derived.Lib.Mul64
namespace Go.Proofs.YtbeahnehjannpaaDoor.Nm
open Go.RowKit
set_option linter.unusedVariables false
set_option linter.unusedSimpArgs false

def M63 : Int := 9223372036854775808
def M64 : Int := 18446744073709551616
def M127 : Int := 170141183460469231731687303715884105728

def fit (n : Int) : Bool := decide (-M63 ≤ n ∧ n < M63)
def clip (n : Int) : Int := if fit n then n else 0
def wfit (n : Int) : Bool := decide (-M127 ≤ n ∧ n < M127)
def whi (n : Int) : Int := if wfit n then n / M64 else 0
def wlo (n : Int) : Int := if wfit n then n % M64 else 0
def val (h l : Int) : Int := h * M64 + l

theorem val_hi {h l : Int} (h0 : 0 ≤ l) (h1 : l < M64) : val h l / M64 = h := by
  unfold val M64 at *; omega
theorem val_lo {h l : Int} (h0 : 0 ≤ l) (h1 : l < M64) : val h l % M64 = l := by
  unfold val M64 at *; omega
theorem val_of (n : Int) : val (n / M64) (n % M64) = n := by
  unfold val M64 at *; omega

theorem fit_true {n : Int} (h : fit n = true) : -M63 ≤ n ∧ n < M63 := by simpa [fit] using h
theorem fit_false {n : Int} (h : fit n = false) : n < -M63 ∨ M63 ≤ n := by
  unfold fit at h; simp at h; omega
theorem fit_yes {n : Int} (h : -M63 ≤ n) (k : n < M63) : fit n = true := by simp [fit, h, k]
theorem fit_no {n : Int} (h : n < -M63 ∨ M63 ≤ n) : fit n = false := by
  unfold fit; simp; omega
theorem clip_yes {n : Int} (h : fit n = true) : clip n = n := by simp [clip, h]
theorem clip_no {n : Int} (h : fit n = false) : clip n = 0 := by simp [clip, h]

def turnedB (a b s : Int) : Bool := (decide (a < 0) == decide (b < 0)) && (decide (a < 0) != decide (s < 0))

theorem turnedB_true {a b s : Int} (h : turnedB a b s = true) : (a < 0 ∧ b < 0 ∧ 0 ≤ s) ∨ (0 ≤ a ∧ 0 ≤ b ∧ s < 0) := by
  unfold turnedB at h
  by_cases h1 : a < 0 <;> by_cases h2 : b < 0 <;> by_cases h3 : s < 0 <;> simp [h1, h2, h3] at h <;> omega
theorem turnedB_false {a b s : Int} (h : turnedB a b s = false) : ¬ ((a < 0 ∧ b < 0 ∧ 0 ≤ s) ∨ (0 ≤ a ∧ 0 ≤ b ∧ s < 0)) := by
  unfold turnedB at h
  by_cases h1 : a < 0 <;> by_cases h2 : b < 0 <;> by_cases h3 : s < 0 <;> simp [h1, h2, h3] at h <;> omega

theorem add_no {a b : Int} (ha : -M63 ≤ a) (ha' : a < M63) (hb : -M63 ≤ b) (hb' : b < M63) (h : turnedB a b (wrap64 (a + b)) = true) : fit (a + b) = false := by
  apply fit_no
  have := turnedB_true h
  unfold wrap64 M63 at *; omega
theorem add_yes {a b : Int} (ha : -M63 ≤ a) (ha' : a < M63) (hb : -M63 ≤ b) (hb' : b < M63) (h : turnedB a b (wrap64 (a + b)) = false) : fit (a + b) = true ∧ wrap64 (a + b) = a + b := by
  have := turnedB_false h
  refine ⟨fit_yes ?_ ?_, ?_⟩ <;> unfold wrap64 M63 at * <;> omega
theorem sub_no {a b : Int} (ha : -M63 ≤ a) (ha' : a < M63) (hb : -M63 ≤ b) (hb' : b < M63) (h : turnedB b (wrap64 (a - b)) a = true) : fit (a - b) = false := by
  apply fit_no
  have := turnedB_true h
  unfold wrap64 M63 at *; omega
theorem sub_yes {a b : Int} (ha : -M63 ≤ a) (ha' : a < M63) (hb : -M63 ≤ b) (hb' : b < M63) (h : turnedB b (wrap64 (a - b)) a = false) : fit (a - b) = true ∧ wrap64 (a - b) = a - b := by
  have := turnedB_false h
  refine ⟨fit_yes ?_ ?_, ?_⟩ <;> unfold wrap64 M63 at * <;> omega

theorem of_neg {a : Int} (ha : -M63 ≤ a) (h : a < 0) : a / M64 = -1 := by unfold M63 M64 at *; omega
theorem of_pos {a : Int} (ha : a < M63) (h : 0 ≤ a) : a / M64 = 0 := by unfold M63 M64 at *; omega

theorem wfit_true {n : Int} (h : wfit n = true) : -M127 ≤ n ∧ n < M127 := by simpa [wfit] using h
theorem wfit_yes {n : Int} (h : -M127 ≤ n) (k : n < M127) : wfit n = true := by simp [wfit, h, k]
theorem wfit_no {n : Int} (h : n < -M127 ∨ M127 ≤ n) : wfit n = false := by
  unfold wfit; simp; omega

theorem plus_no {h l g k : Int} (h1 : -M63 ≤ h) (h2 : h < M63) (g1 : -M63 ≤ g) (g2 : g < M63) (l1 : 0 ≤ l) (l2 : l < M64) (k1 : 0 ≤ k) (k2 : k < M64)
    (t : turnedB h g (wrap64 (h + g + (l + k) / M64)) = true) : wfit (val h l + val g k) = false := by
  apply wfit_no
  have := turnedB_true t
  unfold wrap64 val M63 M64 M127 at *; omega
theorem plus_yes {h l g k : Int} (h1 : -M63 ≤ h) (h2 : h < M63) (g1 : -M63 ≤ g) (g2 : g < M63) (l1 : 0 ≤ l) (l2 : l < M64) (k1 : 0 ≤ k) (k2 : k < M64)
    (t : turnedB h g (wrap64 (h + g + (l + k) / M64)) = false) : wfit (val h l + val g k) = true ∧ wrap64 (h + g + (l + k) / M64) = (val h l + val g k) / M64 ∧ (l + k) % M64 = (val h l + val g k) % M64 := by
  have := turnedB_false t
  refine ⟨wfit_yes ?_ ?_, ?_, ?_⟩ <;> simp only [wrap64, val, M63, M64, M127] at * <;> omega

theorem plus_spell {h g l k : Int} : wrap64 (wrap64 (h + g) + wrap64 ((l + k) / M64)) = wrap64 (h + g + (l + k) / M64) := by
  unfold wrap64; omega
theorem whi_yes {n : Int} (h : wfit n = true) : whi n = n / M64 := by simp [whi, h]
theorem wlo_yes {n : Int} (h : wfit n = true) : wlo n = n % M64 := by simp [wlo, h]
theorem whi_no {n : Int} (h : wfit n = false) : whi n = 0 := by simp [whi, h]
theorem wlo_no {n : Int} (h : wfit n = false) : wlo n = 0 := by simp [wlo, h]

theorem mul_bd {a b : Int} (ha : -M63 ≤ a) (ha' : a < M63) (hb : -M63 ≤ b) (hb' : b < M63) : -(M63 * M63) ≤ a * b ∧ a * b ≤ M63 * M63 := by
  have h1 : a.natAbs ≤ 9223372036854775808 := by unfold M63 at *; omega
  have h2 : b.natAbs ≤ 9223372036854775808 := by unfold M63 at *; omega
  have h3 : (a * b).natAbs ≤ 9223372036854775808 * 9223372036854775808 := by rw [Int.natAbs_mul]; exact Nat.mul_le_mul h1 h2
  unfold M63; omega

theorem prod_hi {a b P : Int} (ha : -M63 ≤ a) (ha' : a < M63) (hb : -M63 ≤ b) (hb' : b < M63)
    (hP : P = (a % M64) * (b % M64)) : a * b = P - (if a < 0 then M64 * (b % M64) else 0) - (if b < 0 then M64 * (a % M64) else 0) + (if a < 0 ∧ b < 0 then M64 * M64 else 0) := by
  have e : ∀ x : Int, -M63 ≤ x → x < M63 → x = x % M64 - (if x < 0 then M64 else 0) := by
    intro x h1 h2; unfold M63 M64 at *; split <;> omega
  have ea := e a ha ha'
  have eb := e b hb hb'
  subst hP
  generalize a % M64 = p at *
  generalize b % M64 = q at *
  by_cases h1 : a < 0 <;> by_cases h2 : b < 0 <;> simp only [h1, h2, if_true, if_false, and_true, and_false] at ea eb ⊢
  · rw [ea, eb, Int.sub_mul, Int.mul_sub, Int.mul_sub, Int.mul_comm p M64]; omega
  · rw [ea, eb]; simp only [Int.sub_zero, Int.sub_mul]; omega
  · rw [ea, eb]; simp only [Int.sub_zero, Int.mul_sub, Int.mul_comm p M64]; omega
  · rw [ea, eb]; simp only [Int.sub_zero]; omega

theorem prod_lo {a b : Int} : (a % M64) * (b % M64) % M64 = a * b % M64 := (Int.mul_emod a b M64).symm

def cmpI (x y : Int) : Int := if x < y then -1 else if x = y then 0 else 1
theorem cmpI_lt {x y : Int} (h : x < y) : cmpI x y = -1 := by simp [cmpI, h]
theorem cmpI_eq {x y : Int} (h : x = y) : cmpI x y = 0 := by simp [cmpI, h]
theorem cmpI_gt {x y : Int} (h : y < x) : cmpI x y = 1 := by
  unfold cmpI; rw [if_neg (by omega), if_neg (by omega)]
theorem cmp_cases {h l g k : Int} (l1 : 0 ≤ l) (l2 : l < M64) (k1 : 0 ≤ k) (k2 : k < M64) :
    (h < g ∨ (h = g ∧ l < k)) → val h l < val g k := by unfold val M64 at *; omega
theorem cmp_cases' {h l g k : Int} (l1 : 0 ≤ l) (l2 : l < M64) (k1 : 0 ≤ k) (k2 : k < M64) :
    (g < h ∨ (h = g ∧ k < l)) → val g k < val h l := by unfold val M64 at *; omega

theorem tdiv_le (a b : Int) (ha : -M63 ≤ a) (ha' : a < M63) (hb : b ≠ -1) : -M63 ≤ a.tdiv b ∧ a.tdiv b < M63 := by
  have h := Int.natAbs_tdiv_le_natAbs a b
  by_cases h0 : a = -M63
  · have h2 : a.natAbs = 9223372036854775808 := by unfold M63 at h0; omega
    have h3 : (a.tdiv b).natAbs = a.natAbs / b.natAbs := Int.natAbs_tdiv a b
    by_cases hb0 : b = 0
    · subst hb0; simp; unfold M63; omega
    by_cases hb1 : b = 1
    · subst hb1; simp; omega
    have h4 : a.natAbs / b.natAbs ≤ a.natAbs / 2 := Nat.div_le_div_left (by omega) (by omega)
    unfold M63 at *; omega
  · unfold M63 at *; omega

theorem fdiv_same {a b : Int} (h : a.tmod b = 0) : a.fdiv b = a.tdiv b := by
  rw [Int.fdiv_eq_tdiv, if_pos (Int.dvd_of_tmod_eq_zero h)]; omega
theorem not_dvd {a b : Int} (h : ¬ a.tmod b = 0) : ¬ b ∣ a := fun k => h (Int.tmod_eq_zero_of_dvd k)
theorem fdiv_less {a b : Int} (hb : b ≠ 0) (h : ¬ a.tmod b = 0) (s : (a < 0 ∧ 0 ≤ b) ∨ (0 ≤ a ∧ b < 0)) : a.fdiv b = a.tdiv b - 1 := by
  rw [Int.fdiv_eq_tdiv, if_neg (not_dvd h)]
  rcases s with ⟨s1, s2⟩ | ⟨s1, s2⟩
  · rw [if_neg (by omega), if_pos s2, Int.sign_eq_one_of_pos (by omega)]
  · rw [if_pos s1, if_neg (by omega)]
theorem fdiv_keep {a b : Int} (hb : b ≠ 0) (h : ¬ a.tmod b = 0) (s : (a < 0 ∧ b < 0) ∨ (0 ≤ a ∧ 0 ≤ b)) : a.fdiv b = a.tdiv b := by
  rw [Int.fdiv_eq_tdiv, if_neg (not_dvd h)]
  rcases s with ⟨s1, s2⟩ | ⟨s1, s2⟩
  · rw [if_neg (by omega), if_neg (by omega), Int.sign_eq_neg_one_of_neg s2]; omega
  · rw [if_pos s1, if_pos s2]; omega
theorem wrap64_id {a : Int} (h : -M63 ≤ a) (k : a < M63) : wrap64 a = a := by unfold wrap64 M63 at *; omega

/-- Not by -1: where the quotient is whole or goes down by one it fits. -/
theorem fdiv_bd {a b : Int} (ha : -M63 ≤ a) (ha' : a < M63) (hb : b ≠ 0) (hb1 : b ≠ -1) : -M63 ≤ a.fdiv b ∧ a.fdiv b < M63 := by
  have t := tdiv_le a b ha ha' hb1
  by_cases hm : a.tmod b = 0
  · rw [fdiv_same hm]; exact t
  · by_cases s : (a < 0 ∧ b < 0) ∨ (0 ≤ a ∧ 0 ≤ b)
    · rw [fdiv_keep hb hm s]; exact t
    · rw [fdiv_less hb hm (by omega)]
      refine ⟨?_, by omega⟩
      have h3 : (a.tdiv b).natAbs = a.natAbs / b.natAbs := Int.natAbs_tdiv a b
      have hb2 : b.natAbs ≠ 1 := by
        intro h1
        have : b = 1 := by omega
        subst this; exact hm (by simp)
      have h4 : a.natAbs / b.natAbs ≤ a.natAbs / 2 := Nat.div_le_div_left (by omega) (by omega)
      unfold M63 at *; omega

end Go.Proofs.YtbeahnehjannpaaDoor.Nm
