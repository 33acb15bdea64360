/- Plain mathematics of pages, on: rising keys, the place of one, one more, one less. -/
import Derived.Test.YtfedcghkohfhlaaPa
namespace Go.Proofs.Ytfedcghkohfhlaa
open Go.RowKit
set_option linter.unusedVariables false
set_option linter.unusedSimpArgs false

/-- Keys rise. -/
def Rise (ks : List ByteArray) : Prop := ∀ i j, i < j → j < ks.length → ltS (kAt ks i) (kAt ks j) = true
theorem kOk_lt {ks : List ByteArray} {i : Nat} (h : kOk ks (i + 1) = true) : ltS (kAt ks i) (kAt ks (i + 1)) = true := by
  unfold kOk at h
  simp only [Bool.and_eq_true, Bool.or_eq_true, decide_eq_true_eq] at h
  rcases h.2 with q | q
  · omega
  · exact q
theorem kOk_size {ks : List ByteArray} {i : Nat} (h : kOk ks i = true) : 1 ≤ (kAt ks i).size ∧ (kAt ks i).size ≤ 40 := by
  unfold kOk at h
  simp only [Bool.and_eq_true, decide_eq_true_eq] at h
  exact h.1
theorem keysB_rise {ks : List ByteArray} (h : keysB ks = true) : Rise ks := by
  intro i j hij hj
  induction j with
  | zero => omega
  | succ j ih =>
    have s := kOk_lt (keysB_at h hj)
    rcases Nat.lt_or_ge i j with q | q
    · exact ltS_trans (ih q (by omega)) s
    · obtain rfl : i = j := by omega
      exact s
theorem rise_keysB {ks : List ByteArray} (h : Rise ks) (s : ∀ i, i < ks.length → 1 ≤ (kAt ks i).size ∧ (kAt ks i).size ≤ 40) : keysB ks = true := by
  refine keysB_true (fun j hj => ?_)
  unfold kOk
  rw [decide_eq_true (s j hj).1, decide_eq_true (s j hj).2]
  cases j with
  | zero => rfl
  | succ j =>
    have := h j (j + 1) (by omega) hj
    simp [this]
theorem Rise.take {ks : List ByteArray} (h : Rise ks) (k : Nat) : Rise (ks.take k) := by
  intro i j hij hj
  simp at hj
  have e : ∀ t, t < k → kAt (ks.take k) t = kAt ks t := fun t ht => by simp [kAt, List.getD, ht]
  rw [e i (by omega), e j (by omega)]
  exact h i j hij (by omega)
theorem kAt_drop (ks : List ByteArray) (k t : Nat) : kAt (ks.drop k) t = kAt ks (k + t) := by simp [kAt, List.getD]
theorem kAt_take {ks : List ByteArray} {k t : Nat} (h : t < k) : kAt (ks.take k) t = kAt ks t := by simp [kAt, List.getD, h]
theorem Rise.drop {ks : List ByteArray} (h : Rise ks) (k : Nat) : Rise (ks.drop k) := by
  intro i j hij hj
  simp at hj
  rw [kAt_drop, kAt_drop]
  exact h _ _ (by omega) (by omega)

/-- How many keys at the head are below one. -/
def posS (ks : List ByteArray) (x : ByteArray) : Nat := (ks.takeWhile (fun k => ltS k x)).length
def fnd (ks : List ByteArray) (x : ByteArray) : Bool := decide (posS ks x < ks.length ∧ kAt ks (posS ks x) = x)
theorem kAt_cons (k : ByteArray) (ks : List ByteArray) (i : Nat) : kAt (k :: ks) (i + 1) = kAt ks i := by simp [kAt, List.getD]
theorem kAt_zero (k : ByteArray) (ks : List ByteArray) : kAt (k :: ks) 0 = k := rfl
theorem pos_is : ∀ {ks : List ByteArray} {x : ByteArray} {i : Nat}, i ≤ ks.length → (∀ t, t < i → ltS (kAt ks t) x = true) → (i < ks.length → ltS (kAt ks i) x = false) → posS ks x = i
  | [], x, i, h1, h2, h3 => by simp at h1; subst h1; rfl
  | k :: ks, x, 0, h1, h2, h3 => by
    have := h3 (by simp)
    rw [kAt_zero] at this
    simp [posS, this]
  | k :: ks, x, i + 1, h1, h2, h3 => by
    have h0 := h2 0 (by omega)
    rw [kAt_zero] at h0
    have ih := pos_is (ks := ks) (x := x) (i := i) (by simpa using h1) (fun t ht => by have := h2 (t + 1) (by omega); rwa [kAt_cons] at this) (fun hi => by have := h3 (by simpa using hi); rwa [kAt_cons] at this)
    unfold posS at ih ⊢
    simp [h0, ih]
theorem pos_le : ∀ (ks : List ByteArray) (x : ByteArray), posS ks x ≤ ks.length
  | [], x => Nat.le_refl _
  | k :: ks, x => by
    have := pos_le ks x
    unfold posS at this ⊢
    cases e : ltS k x with
    | true => simp [e]; exact this
    | false => simp [e]
theorem pos_lt : ∀ {ks : List ByteArray} {x : ByteArray} {t : Nat}, t < posS ks x → ltS (kAt ks t) x = true
  | [], x, t, h => by simp [posS] at h
  | k :: ks, x, t, h => by
    cases e : ltS k x with
    | false => simp [posS, e] at h
    | true =>
      cases t with
      | zero => rw [kAt_zero]; exact e
      | succ t =>
        rw [kAt_cons]
        refine pos_lt ?_
        simp [posS, e] at h
        unfold posS
        omega
theorem pos_at : ∀ {ks : List ByteArray} {x : ByteArray}, posS ks x < ks.length → ltS (kAt ks (posS ks x)) x = false
  | [], x, h => by simp [posS] at h
  | k :: ks, x, h => by
    cases e : ltS k x with
    | false =>
      have : posS (k :: ks) x = 0 := by simp [posS, e]
      rw [this, kAt_zero]; exact e
    | true =>
      have q : posS (k :: ks) x = posS ks x + 1 := by simp [posS, e]
      rw [q] at h ⊢
      rw [kAt_cons]
      exact pos_at (by simpa using h)
/-- Behind the place all are above. -/
theorem pos_gt {ks : List ByteArray} (h : Rise ks) {x : ByteArray} {t : Nat} (h1 : posS ks x ≤ t) (h2 : t < ks.length) : ltS (kAt ks t) x = false := by
  have p := pos_at (ks := ks) (x := x) (by omega)
  rcases Nat.lt_or_ge (posS ks x) t with q | q
  · have r := h _ _ q h2
    cases e : ltS (kAt ks t) x with
    | false => rfl
    | true => have := ltS_trans r e; rw [p] at this; cases this
  · obtain rfl : t = posS ks x := by omega
    exact p
theorem fnd_true {ks : List ByteArray} {x : ByteArray} (h : fnd ks x = true) : posS ks x < ks.length ∧ kAt ks (posS ks x) = x := by
  unfold fnd at h; exact of_decide_eq_true h
theorem fnd_false {ks : List ByteArray} {x : ByteArray} (h : fnd ks x = false) : ¬ (posS ks x < ks.length ∧ kAt ks (posS ks x) = x) := by
  unfold fnd at h; exact of_decide_eq_false h
/-- Where it is not, the one at its place is above. -/
theorem pos_above {ks : List ByteArray} {x : ByteArray} (h : fnd ks x = false) (l : posS ks x < ks.length) : ltS x (kAt ks (posS ks x)) = true := by
  cases e : ltS x (kAt ks (posS ks x)) with
  | true => rfl
  | false => exact absurd ⟨l, ltS_total (pos_at l) e⟩ (fnd_false h)

/-- How many keys at the head are at most one. -/
def leS (a b : ByteArray) : Bool := ltS a b || decide (a = b)
def plS (ks : List ByteArray) (x : ByteArray) : Nat := posS ks x + (if fnd ks x then 1 else 0)
theorem plS_le (ks : List ByteArray) (x : ByteArray) : plS ks x ≤ ks.length := by
  unfold plS
  cases h : fnd ks x with
  | true => have := (fnd_true h).1; simp; omega
  | false => have := pos_le ks x; simp; omega
/-- It is where a walk along them ends. -/
theorem plS_is {ks : List ByteArray} (hr : Rise ks) {x : ByteArray} {i : Nat} (h1 : i ≤ ks.length) (h2 : ∀ t, t < i → leS (kAt ks t) x = true) (h3 : i < ks.length → leS (kAt ks i) x = false) : plS ks x = i := by
  have lt_of : ∀ t, t + 1 < i → ltS (kAt ks t) x = true := fun t ht => by
    have a := h2 (t + 1) ht
    have b := hr t (t + 1) (by omega) (by omega)
    unfold leS at a
    simp only [Bool.or_eq_true, decide_eq_true_eq] at a
    rcases a with a | a
    · exact ltS_trans b a
    · rw [← a]; exact b
  have no : i < ks.length → ltS (kAt ks i) x = false := fun hi => by
    have := h3 hi
    unfold leS at this
    simp only [Bool.or_eq_false_iff] at this
    exact this.1
  rcases Nat.eq_zero_or_pos i with q | q
  · subst q
    have p : posS ks x = 0 := pos_is (Nat.zero_le _) (fun t ht => by omega) no
    have f : fnd ks x = false := by
      unfold fnd
      rw [p]
      refine decide_eq_false (fun ⟨a, b⟩ => ?_)
      have := h3 a
      unfold leS at this
      simp [b] at this
    unfold plS
    rw [p, f]; rfl
  · have a := h2 (i - 1) (by omega)
    unfold leS at a
    simp only [Bool.or_eq_true, decide_eq_true_eq] at a
    rcases a with a | a
    · have p : posS ks x = i := pos_is h1 (fun t ht => by
        rcases Nat.lt_or_ge (t + 1) i with r | r
        · exact lt_of t r
        · obtain rfl : t = i - 1 := by omega
          exact a) no
      have f : fnd ks x = false := by
        unfold fnd
        rw [p]
        refine decide_eq_false (fun ⟨a, b⟩ => ?_)
        have := h3 a
        unfold leS at this
        simp [b] at this
      unfold plS
      rw [p, f]; rfl
    · have p : posS ks x = i - 1 := pos_is (by omega) (fun t ht => lt_of t (by omega)) (fun _ => by rw [a]; exact ltS_irrefl x)
      have f : fnd ks x = true := by
        unfold fnd
        rw [p]
        exact decide_eq_true ⟨by omega, a⟩
      unfold plS
      rw [p, f]
      simp
      omega
theorem plS_found {ks : List ByteArray} {x : ByteArray} : decide (0 < plS ks x ∧ kAt ks (plS ks x - 1) = x) = fnd ks x := by
  cases f : fnd ks x with
  | true =>
    have := fnd_true f
    unfold plS
    rw [f]
    simp [this.2]
  | false =>
    refine decide_eq_false (fun ⟨a, b⟩ => ?_)
    unfold plS at a b
    rw [f] at a b
    simp at a b
    have := pos_lt (ks := ks) (x := x) (t := posS ks x - 1) (by omega)
    rw [b, ltS_irrefl] at this
    cases this

/-- One more at a place; one less; another. -/
def insAt {α : Type} (l : List α) (i : Nat) (x : α) : List α := l.take i ++ x :: l.drop i
def delAt {α : Type} (l : List α) (i : Nat) : List α := l.take i ++ l.drop (i + 1)
def setAt {α : Type} (l : List α) (i : Nat) (x : α) : List α := l.take i ++ x :: l.drop (i + 1)
theorem insAt_len {α : Type} {l : List α} {i : Nat} {x : α} (h : i ≤ l.length) : (insAt l i x).length = l.length + 1 := by simp [insAt]; omega
theorem delAt_len {α : Type} {l : List α} {i : Nat} (h : i < l.length) : (delAt l i).length = l.length - 1 := by simp [delAt]; omega
theorem setAt_len {α : Type} {l : List α} {i : Nat} {x : α} (h : i < l.length) : (setAt l i x).length = l.length := by simp [setAt]; omega
theorem tot_ins {ss : List ByteArray} (i : Nat) (x : ByteArray) : tot (insAt ss i x) = tot ss + x.size := by
  unfold insAt
  rw [tot_app]
  simp only [tot]
  have := tot_app (ss.take i) (ss.drop i)
  rw [List.take_append_drop] at this
  omega
theorem tot_del_le {ss : List ByteArray} (i : Nat) : tot (delAt ss i) ≤ tot ss := by
  unfold delAt
  rw [tot_app]
  have := tot_app (ss.take i) (ss.drop i)
  rw [List.take_append_drop] at this
  have k := tot_drop_le (ss.drop i) 1
  rw [List.drop_drop] at k
  omega
theorem tot_set_le {ss : List ByteArray} (i : Nat) (x : ByteArray) : tot (setAt ss i x) ≤ tot ss + x.size := by
  unfold setAt
  rw [tot_app]
  simp only [tot]
  have := tot_app (ss.take i) (ss.drop i)
  rw [List.take_append_drop] at this
  have k := tot_drop_le (ss.drop i) 1
  rw [List.drop_drop] at k
  omega
def putP (p : Pg) (k v : ByteArray) : Pg := if fnd p.keys k then ⟨true, p.keys, setAt p.vals (posS p.keys k) v, []⟩ else ⟨true, insAt p.keys (posS p.keys k) k, insAt p.vals (posS p.keys k) v, []⟩
def dropP (p : Pg) (k : ByteArray) : Pg := if fnd p.keys k then ⟨true, delAt p.keys (posS p.keys k), delAt p.vals (posS p.keys k), []⟩ else p
theorem putP_yes {p : Pg} {k v : ByteArray} (h : fnd p.keys k = true) : putP p k v = ⟨true, p.keys, setAt p.vals (posS p.keys k) v, []⟩ := by unfold putP; rw [h, if_pos rfl]
theorem putP_no {p : Pg} {k v : ByteArray} (h : fnd p.keys k = false) : putP p k v = ⟨true, insAt p.keys (posS p.keys k) k, insAt p.vals (posS p.keys k) v, []⟩ := by unfold putP; rw [h, if_neg (by decide)]
theorem dropP_yes {p : Pg} {k : ByteArray} (h : fnd p.keys k = true) : dropP p k = ⟨true, delAt p.keys (posS p.keys k), delAt p.vals (posS p.keys k), []⟩ := by unfold dropP; rw [h, if_pos rfl]
theorem dropP_no {p : Pg} {k : ByteArray} (h : fnd p.keys k = false) : dropP p k = p := by unfold dropP; rw [h, if_neg (by decide)]

end Go.Proofs.Ytfedcghkohfhlaa
