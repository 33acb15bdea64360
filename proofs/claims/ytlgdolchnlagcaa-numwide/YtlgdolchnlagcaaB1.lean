/- Plain mathematics for numbers by digits to the base 65536, the lowest first. No program in it. -/
import Derived.Test.YtlgdolchnlagcaaMath
namespace Go.Proofs.Ytlgdolchnlagcaa
open Go.RowKit
set_option linter.unusedVariables false

def K16 : Int := 65536
/-- What digits stand for. -/
def dval : List Int → Int
  | [] => 0
  | d :: r => d + K16 * dval r
def pw : Nat → Int
  | 0 => 1
  | n + 1 => K16 * pw n
def DsOk (ds : List Int) : Prop := ∀ d ∈ ds, 0 ≤ d ∧ d < K16

theorem pw_pos (n : Nat) : 0 < pw n := by
  induction n with
  | zero => decide
  | succ n ih => unfold pw K16; omega
theorem pw_add (a b : Nat) : pw (a + b) = pw a * pw b := by
  induction a with
  | zero => simp [pw]
  | succ a ih => rw [show a + 1 + b = (a + b) + 1 by omega]; simp only [pw]; rw [ih, Int.mul_assoc]
theorem pw_le {a b : Nat} (h : a ≤ b) : pw a ≤ pw b := by
  obtain ⟨c, rfl⟩ := Nat.exists_eq_add_of_le h
  rw [pw_add]
  have p := pw_pos a
  have q := pw_pos c
  have := Int.mul_le_mul_of_nonneg_left (show (1 : Int) ≤ pw c by omega) (show 0 ≤ pw a by omega)
  omega
theorem dval_snoc (ds : List Int) (x : Int) : dval (ds ++ [x]) = dval ds + x * pw ds.length := by
  induction ds with
  | nil => simp [dval, pw]
  | cons d r ih =>
    simp only [List.cons_append, dval, List.length_cons, pw]
    rw [ih, Int.mul_add, Int.mul_left_comm x]
    omega
theorem DsOk.cons {d : Int} {r : List Int} (h : DsOk (d :: r)) : (0 ≤ d ∧ d < K16) ∧ DsOk r := ⟨h d (by simp), fun x hx => h x (by simp [hx])⟩
theorem dval_nonneg {ds : List Int} (h : DsOk ds) : 0 ≤ dval ds := by
  induction ds with
  | nil => simp [dval]
  | cons d r ih => have := ih h.cons.2; have := h.cons.1.1; simp only [dval]; unfold K16; omega
theorem dval_lt {ds : List Int} (h : DsOk ds) : dval ds < pw ds.length := by
  induction ds with
  | nil => simp [dval, pw]
  | cons d r ih => have := ih h.cons.2; have := h.cons.1.2; simp only [dval, List.length_cons, pw]; unfold K16 at *; omega
theorem DsOk.snoc {ds : List Int} {x : Int} (h : DsOk ds) (h0 : 0 ≤ x) (h1 : x < K16) : DsOk (ds ++ [x]) := by
  intro d hd
  simp at hd
  rcases hd with hd | rfl
  · exact h d hd
  · exact ⟨h0, h1⟩
theorem DsOk.take {ds : List Int} (h : DsOk ds) (k : Nat) : DsOk (ds.take k) := fun d hd => h d (List.mem_of_mem_take hd)
theorem DsOk.getD {ds : List Int} (h : DsOk ds) (i : Nat) : 0 ≤ ds.getD i 0 ∧ ds.getD i 0 < K16 := by
  by_cases hi : i < ds.length
  · have e : ds.getD i 0 = ds[i] := by simp [List.getD, hi]
    rw [e]; exact h _ (List.getElem_mem hi)
  · have e : ds.getD i 0 = 0 := by simp [List.getD, show ds.length ≤ i by omega]
    rw [e]; decide
/-- The lower digits. -/
def low (ds : List Int) (i : Nat) : Int := dval (ds.take i)
theorem low_zero (ds : List Int) : low ds 0 = 0 := rfl
theorem low_succ (ds : List Int) (i : Nat) : low ds (i + 1) = low ds i + ds.getD i 0 * pw i := by
  unfold low
  by_cases hi : i < ds.length
  · rw [List.take_succ_eq_append_getElem hi, dval_snoc]
    have e : ds.getD i 0 = ds[i] := by simp [List.getD, hi]
    rw [e, List.length_take, show min i ds.length = i by omega]
  · have e : ds.getD i 0 = 0 := by simp [List.getD, show ds.length ≤ i by omega]
    rw [e, List.take_of_length_le (by omega), List.take_of_length_le (by omega)]; omega
theorem low_all {ds : List Int} {i : Nat} (h : ds.length ≤ i) : low ds i = dval ds := by unfold low; rw [List.take_of_length_le h]
theorem low_nonneg {ds : List Int} (h : DsOk ds) (i : Nat) : 0 ≤ low ds i := dval_nonneg (h.take i)
theorem low_lt {ds : List Int} (h : DsOk ds) (i : Nat) : low ds i < pw i := by
  have a := dval_lt (h.take i)
  have b : pw (ds.take i).length ≤ pw i := pw_le (by simp; omega)
  unfold low; omega
theorem low_le {ds : List Int} (h : DsOk ds) (i : Nat) : low ds i ≤ dval ds := by
  have key : ∀ k, low ds i ≤ low ds (i + k) := by
    intro k
    induction k with
    | zero => exact Int.le_refl _
    | succ k ih =>
      rw [show i + (k + 1) = (i + k) + 1 by omega, low_succ]
      have := Int.mul_nonneg (h.getD (i + k)).1 (show 0 ≤ pw (i + k) by have := pw_pos (i + k); omega)
      omega
  have := key ds.length
  rw [low_all (ds := ds) (i := i + ds.length) (by omega)] at this
  exact this

/-- No noughts ahead. -/
def Trim (ds : List Int) : Prop := 0 < ds.length → ds.getD (ds.length - 1) 0 ≠ 0
theorem trim_ge {ds : List Int} (h : DsOk ds) (t : Trim ds) (n : 0 < ds.length) : pw (ds.length - 1) ≤ dval ds := by
  have e := low_succ ds (ds.length - 1)
  rw [show ds.length - 1 + 1 = ds.length by omega, low_all (Nat.le_refl _)] at e
  have a := low_nonneg h (ds.length - 1)
  have b := h.getD (ds.length - 1)
  have c := t n
  have p := pw_pos (ds.length - 1)
  have := Int.mul_le_mul_of_nonneg_right (show (1 : Int) ≤ ds.getD (ds.length - 1) 0 by omega) (show 0 ≤ pw (ds.length - 1) by omega)
  omega
theorem trim_len {ds : List Int} (h : DsOk ds) (t : Trim ds) {k : Nat} (l : dval ds < pw k) : ds.length ≤ k := by
  rcases Nat.lt_or_ge k ds.length with c | c
  · have a := trim_ge h t (by omega)
    have b := pw_le (show k ≤ ds.length - 1 by omega)
    omega
  · exact c
theorem trim_pos {ds : List Int} (h : DsOk ds) (t : Trim ds) (n : 0 < ds.length) : 0 < dval ds := by
  have := trim_ge h t n
  have := pw_pos (ds.length - 1)
  omega
theorem trim_zero {ds : List Int} (h : DsOk ds) (t : Trim ds) (z : dval ds = 0) : ds = [] := by
  rcases Nat.eq_zero_or_pos ds.length with c | c
  · exact List.length_eq_zero_iff.1 c
  · have := trim_pos h t c; omega

/-- One number below another: by lengths, else by the highest digit that parts them. -/
theorem less_len {a b : List Int} (ha : DsOk a) (hb : DsOk b) (tb : Trim b) (h : a.length < b.length) : dval a < dval b := by
  have x := dval_lt ha
  have y := trim_ge hb tb (by omega)
  have z := pw_le (show a.length ≤ b.length - 1 by omega)
  omega
theorem high_eq {a b : List Int} (i : Nat) : ∀ m, (∀ j, i ≤ j → j < i + m → a.getD j 0 = b.getD j 0) → low a (i + m) - low a i = low b (i + m) - low b i := by
  intro m
  induction m with
  | zero => intro _; simp
  | succ m ih =>
    intro h
    have e := ih (fun j h1 h2 => h j h1 (by omega))
    rw [show i + (m + 1) = (i + m) + 1 by omega, low_succ, low_succ, h (i + m) (by omega) (by omega)]
    omega
theorem less_digit {a b : List Int} (ha : DsOk a) (hb : DsOk b) (hl : a.length = b.length) (i : Nat) (hi : i < a.length) (h : ∀ j, i < j → j < a.length → a.getD j 0 = b.getD j 0) (lt : a.getD i 0 < b.getD i 0) : dval a < dval b := by
  have e := high_eq (a := a) (b := b) (i + 1) (a.length - (i + 1)) (fun j h1 h2 => h j (by omega) (by omega))
  rw [show i + 1 + (a.length - (i + 1)) = a.length by omega, low_all (ds := a) (Nat.le_refl _), low_all (ds := b) (i := a.length) (by omega)] at e
  have x := low_succ a i
  have y := low_succ b i
  have u := low_lt ha i
  have v := low_nonneg hb i
  have w := Int.mul_le_mul_of_nonneg_right (show a.getD i 0 + 1 ≤ b.getD i 0 by omega) (show 0 ≤ pw i by have := pw_pos i; omega)
  rw [Int.add_mul] at w
  omega
theorem eq_digits {a b : List Int} (hl : a.length = b.length) (h : ∀ j, j < a.length → a.getD j 0 = b.getD j 0) : dval a = dval b := by
  have e := high_eq (a := a) (b := b) 0 a.length (fun j _ h2 => h j (by omega))
  rw [Nat.zero_add, low_all (ds := a) (Nat.le_refl _), low_all (ds := b) (i := a.length) (by omega), low_zero, low_zero] at e
  omega

end Go.Proofs.Ytlgdolchnlagcaa
