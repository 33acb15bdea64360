/- Numbers written in digits, and cut again. -/
import Derived.Test.YtnjokafpolnjhaaDoorY6
import Derived.Test.YtnjokafpolnjhaaDoorBt
namespace Go.Proofs.YtnjokafpolnjhaaDoor
set_option linter.unusedVariables false
set_option linter.unusedSimpArgs false

/-- a number's digits -/
def decG : Nat → Nat → List UInt8
  | 0, n => [UInt8.ofNat (48 + n % 10)]
  | f + 1, n => if n < 10 then [UInt8.ofNat (48 + n)] else decG f (n / 10) ++ [UInt8.ofNat (48 + n % 10)]
def dec (n : Nat) : List UInt8 := decG 20 n
theorem ofNat_dig {d : Nat} (h : d ≤ 9) : (UInt8.ofNat (48 + d)).toNat = 48 + d := by
  rw [UInt8.toNat_ofNat']
  omega
theorem fig_snoc (l : List UInt8) (c : UInt8) : ∀ n, fig n (l ++ [c]) = 10 * fig n l + (c.toNat - 48) := by
  induction l with
  | nil => intro n; rfl
  | cons d l ih => intro n; exact ih _
theorem fig_app (l m : List UInt8) : ∀ n, fig n (l ++ m) = fig (fig n l) m := by
  induction l with
  | nil => intro n; rfl
  | cons d l ih => intro n; exact ih _
theorem decG_dig (f : Nat) : ∀ n, ∀ c ∈ decG f n, dgB c.toNat = true := by
  have one : ∀ d, d ≤ 9 → dgB ((UInt8.ofNat (48 + d)).toNat : Nat) = true := fun d h => by
    rw [ofNat_dig h]
    unfold dgB
    simp
    omega
  induction f with
  | zero => intro n c hc; rw [List.mem_singleton.1 hc]; exact one _ (by omega)
  | succ f ih =>
    intro n c hc
    unfold decG at hc
    split at hc
    · rw [List.mem_singleton.1 hc]; exact one _ (by omega)
    · rcases List.mem_append.1 hc with h | h
      · exact ih _ c h
      · rw [List.mem_singleton.1 h]; exact one _ (by omega)
theorem decG_fig (f : Nat) : ∀ n, n < 10 ^ (f + 1) → fig 0 (decG f n) = n := by
  induction f with
  | zero =>
    intro n hn
    show 10 * 0 + ((UInt8.ofNat (48 + n % 10)).toNat - 48) = n
    rw [ofNat_dig (by omega)]
    omega
  | succ f ih =>
    intro n hn
    unfold decG
    split
    · rename_i h
      show 10 * 0 + ((UInt8.ofNat (48 + n)).toNat - 48) = n
      rw [ofNat_dig (by omega)]
      omega
    · rw [fig_snoc, ih (n / 10) (by rw [Nat.pow_succ] at hn; omega), ofNat_dig (by omega)]
      omega
theorem decG_len (f : Nat) : ∀ n, 1 ≤ (decG f n).length ∧ (decG f n).length ≤ f + 1 := by
  induction f with
  | zero => intro n; simp [decG]
  | succ f ih =>
    intro n
    unfold decG
    split
    · simp
    · have := ih (n / 10)
      simp
      omega
theorem decG_small (f : Nat) : ∀ n k, n < 10 ^ k → 1 ≤ k → (decG f n).length ≤ k ∨ f = 0 := by
  induction f with
  | zero => intro n k _ _; exact .inr rfl
  | succ f ih =>
    intro n k h h1
    left
    unfold decG
    split
    · simp; omega
    · rename_i c
      cases k with
      | zero => omega
      | succ k =>
        have hk : 1 ≤ k := by
          rcases Nat.eq_zero_or_pos k with z | z
          · subst z; simp at h; omega
          · exact z
        have := ih (n / 10) k (by rw [Nat.pow_succ] at h; omega) hk
        simp
        rcases this with x | x
        · omega
        · subst x; simp [decG]; omega
/-- runs of digits that end -/
theorem runD_all {l : List UInt8} (h : ∀ c ∈ l, dgB c.toNat = true) (r : List UInt8) (hr : runD r = 0) : runD (l ++ r) = l.length := by
  induction l with
  | nil => exact hr
  | cons c l ih =>
    show (if isDig c then runD (l ++ r) + 1 else 0) = _
    rw [if_pos (show isDig c = true from h c (by simp)), ih (fun d hd => h d (by simp [hd]))]
    rfl
theorem dec_dig (n : Nat) : ∀ c ∈ dec n, dgB c.toNat = true := decG_dig 20 n
theorem dec_fig {n : Nat} (h : n ≤ 4503599627370496) : fig 0 (dec n) = n := decG_fig 20 n (by show n < 10 ^ 21; omega)
theorem dec_len (n : Nat) : 1 ≤ (dec n).length ∧ (dec n).length ≤ 21 := decG_len 20 n
theorem dec_step {n : Nat} (h : 10 ≤ n) (h2 : n ≤ 1000000000000000000) : dec n = dec (n / 10) ++ [UInt8.ofNat (48 + n % 10)] := by
  have key : ∀ f m, m < 10 ^ (f + 1) → decG (f + 1) m = decG f m := by
    intro f
    induction f with
    | zero => intro m hm; unfold decG; rw [if_pos (by omega), show m % 10 = m by omega]
    | succ f ih =>
      intro m hm
      show (if m < 10 then [UInt8.ofNat (48 + m)] else decG (f + 1) (m / 10) ++ [UInt8.ofNat (48 + m % 10)]) = (if m < 10 then [UInt8.ofNat (48 + m)] else decG f (m / 10) ++ [UInt8.ofNat (48 + m % 10)])
      split
      · rfl
      · rw [ih (m / 10) (by rw [Nat.pow_succ] at hm; omega)]
  show decG 20 n = decG 20 (n / 10) ++ _
  rw [key 19 (n / 10) (by show n / 10 < 10 ^ 20; omega)]
  show (if n < 10 then _ else _) = _
  rw [if_neg (by omega)]
theorem dec_one {n : Nat} (h : n < 10) : dec n = [UInt8.ofNat (48 + n)] := if_pos h
end Go.Proofs.YtnjokafpolnjhaaDoor
