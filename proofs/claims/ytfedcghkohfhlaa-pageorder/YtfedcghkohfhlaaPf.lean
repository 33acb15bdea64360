/- Plain mathematics of pages, on: rising rows of keys are told by their members; one put in, one taken out. -/
import Derived.Test.YtfedcghkohfhlaaPc
namespace Go.Proofs.Ytfedcghkohfhlaa
open Go.RowKit
set_option linter.unusedVariables false
set_option linter.unusedSimpArgs false

def Pw (ks : List ByteArray) : Prop := ks.Pairwise (fun a b => ltS a b = true)
theorem rise_pw {ks : List ByteArray} : Rise ks ↔ Pw ks := by
  unfold Pw
  rw [List.pairwise_iff_getElem]
  constructor
  · intro h i j hi hj hij
    have := h i j hij hj
    rwa [kAt_get hi, kAt_get hj] at this
  · intro h i j hij hj
    rw [kAt_get (by omega), kAt_get hj]
    exact h i j (by omega) hj hij
theorem fnd_mem {L : List ByteArray} (r : Rise L) {x : ByteArray} : fnd L x = true ↔ x ∈ L := by
  constructor
  · intro h
    obtain ⟨a, b⟩ := fnd_true h
    rw [kAt_get a] at b
    rw [← b]
    exact List.getElem_mem a
  · intro h
    obtain ⟨i, hi, rfl⟩ := List.mem_iff_getElem.1 h
    have p : posS L L[i] = i := pos_is (by omega) (fun t ht => by have := r t i ht hi; rwa [kAt_get hi] at this) (fun _ => by rw [kAt_get hi]; exact ltS_irrefl _)
    unfold fnd
    rw [p]
    exact decide_eq_true ⟨hi, kAt_get hi⟩
theorem fnd_not {L : List ByteArray} (r : Rise L) {x : ByteArray} : fnd L x = false ↔ ¬ x ∈ L := by
  rw [← fnd_mem r]; simp
/-- One more, at its place. -/
def insK (L : List ByteArray) (k : ByteArray) : List ByteArray := insAt L (posS L k) k
def delK (L : List ByteArray) (k : ByteArray) : List ByteArray := delAt L (posS L k)
theorem insK_len (L : List ByteArray) (k : ByteArray) : (insK L k).length = L.length + 1 := insAt_len (pos_le L k)
theorem insK_mem {L : List ByteArray} {k x : ByteArray} : x ∈ insK L k ↔ x = k ∨ x ∈ L := by
  unfold insK insAt
  have e : x ∈ L ↔ x ∈ L.take (posS L k) ∨ x ∈ L.drop (posS L k) := by
    rw [← List.mem_append, List.take_append_drop]
  rw [List.mem_append, List.mem_cons, e]
  constructor
  · rintro (h | h | h)
    · exact Or.inr (Or.inl h)
    · exact Or.inl h
    · exact Or.inr (Or.inr h)
  · rintro (h | h | h)
    · exact Or.inr (Or.inl h)
    · exact Or.inl h
    · exact Or.inr (Or.inr h)
theorem insK_rise {L : List ByteArray} (r : Rise L) {k : ByteArray} (f : fnd L k = false) : Rise (insK L k) := by
  have lo : ∀ a ∈ L.take (posS L k), ltS a k = true := fun a ha => by
    obtain ⟨i, hi, rfl⟩ := List.mem_take_iff_getElem.1 ha
    have := pos_lt (ks := L) (x := k) (t := i) (by omega)
    rwa [kAt_get (by omega)] at this
  have up : ∀ b ∈ L.drop (posS L k), ltS k b = true := fun b hb => by
    obtain ⟨i, hi, rfl⟩ := List.mem_drop_iff_getElem.1 hb
    have q := pos_gt r (x := k) (t := posS L k + i) (by omega) (by omega)
    rw [kAt_get (by omega)] at q
    cases e : ltS k (L[posS L k + i]'(by omega)) with
    | true => rfl
    | false =>
      have t := ltS_total q e
      exact absurd (t ▸ List.getElem_mem (by omega)) ((fnd_not r).1 f)
  rw [rise_pw] at r ⊢
  have w : Pw (L.take (posS L k) ++ L.drop (posS L k)) := by rw [List.take_append_drop]; exact r
  unfold Pw at w ⊢
  rw [List.pairwise_append] at w
  unfold insK insAt
  rw [List.pairwise_append, List.pairwise_cons]
  refine ⟨w.1, ⟨up, w.2.1⟩, fun a ha b hb => ?_⟩
  rcases List.mem_cons.1 hb with rfl | hb
  · exact lo a ha
  · exact w.2.2 a ha b hb
theorem pw_uniq : ∀ {L M : List ByteArray}, Pw L → Pw M → (∀ x, x ∈ L ↔ x ∈ M) → L = M
  | [], [], _, _, _ => rfl
  | [], b :: M, _, _, h => by have := (h b).2 (by simp); cases this
  | a :: L, [], _, _, h => by have := (h a).1 (by simp); cases this
  | a :: L, b :: M, p, q, h => by
    unfold Pw at p q
    rw [List.pairwise_cons] at p q
    have e : a = b := by
      have h1 := (h a).1 (by simp)
      have h2 := (h b).2 (by simp)
      rcases List.mem_cons.1 h1 with x | x
      · exact x
      · rcases List.mem_cons.1 h2 with y | y
        · exact y.symm
        · have u := q.1 a x
          have v := p.1 b y
          rw [ltS_asym u] at v
          cases v
    subst e
    have na : ¬ a ∈ L := fun m => by have := p.1 a m; rw [ltS_irrefl] at this; cases this
    have nb : ¬ a ∈ M := fun m => by have := q.1 a m; rw [ltS_irrefl] at this; cases this
    rw [pw_uniq p.2 q.2 (fun x => ?_)]
    have hx := h x
    simp only [List.mem_cons] at hx
    constructor
    · intro m
      rcases hx.1 (Or.inr m) with y | y
      · subst y; exact absurd m na
      · exact y
    · intro m
      rcases hx.2 (Or.inr m) with y | y
      · subst y; exact absurd m nb
      · exact y
theorem rise_uniq {L M : List ByteArray} (p : Rise L) (q : Rise M) (h : ∀ x, x ∈ L ↔ x ∈ M) : L = M := pw_uniq (rise_pw.1 p) (rise_pw.1 q) h
theorem delK_rise {L : List ByteArray} (r : Rise L) (k : ByteArray) : Rise (delK L k) := by
  rw [rise_pw] at r ⊢
  unfold Pw at r ⊢
  refine List.Pairwise.sublist ?_ r
  unfold delK delAt
  have e : L.take (posS L k) ++ L.drop (posS L k) = L := List.take_append_drop _ _
  conv => rhs; rw [← e]
  refine List.Sublist.append (List.Sublist.refl _) ?_
  rw [← List.drop_drop]
  exact List.drop_sublist _ _
theorem delK_mem {L : List ByteArray} (r : Rise L) {k x : ByteArray} (f : fnd L k = true) : x ∈ delK L k ↔ x ∈ L ∧ x ≠ k := by
  obtain ⟨a, b⟩ := fnd_true f
  have e : L = L.take (posS L k) ++ k :: L.drop (posS L k + 1) := by
    conv => lhs; rw [← List.take_append_drop (posS L k) L]
    rw [List.drop_eq_getElem_cons a, ← kAt_get a, b]
  have w := rise_pw.1 r
  unfold Pw at w
  unfold delK delAt
  generalize L.take (posS L k) = A at *
  generalize L.drop (posS L k + 1) = B at *
  rw [e, List.pairwise_append, List.pairwise_cons] at w
  have nA : ¬ k ∈ A := fun m => by have := w.2.2 k m k (by simp); rw [ltS_irrefl] at this; cases this
  have nB : ¬ k ∈ B := fun m => by have := w.2.1.1 k m; rw [ltS_irrefl] at this; cases this
  rw [e]
  simp only [List.mem_append, List.mem_cons]
  constructor
  · rintro (h | h)
    · exact ⟨Or.inl h, fun q => nA (q ▸ h)⟩
    · exact ⟨Or.inr (Or.inr h), fun q => nB (q ▸ h)⟩
  · rintro ⟨h | h | h, q⟩
    · exact Or.inl h
    · exact absurd h q
    · exact Or.inr h
/-- A leaf whose values are its keys. -/
def lf (L : List ByteArray) : Pg := ⟨true, L, L, []⟩
theorem put_lf {L : List ByteArray} {k : ByteArray} (f : fnd L k = false) : putP (lf L) k k = lf (insK L k) := by
  rw [putP_no (p := lf L) f]; rfl
theorem drop_lf {L : List ByteArray} {k : ByteArray} (f : fnd L k = true) : dropP (lf L) k = lf (delK L k) := by
  rw [dropP_yes (p := lf L) f]; rfl
/-- Taken out, it is not there; put in again, the row is as it was. -/
theorem del_none {L : List ByteArray} (r : Rise L) {k : ByteArray} (f : fnd L k = true) : fnd (delK L k) k = false := by
  rw [fnd_not (delK_rise r k), delK_mem r f]
  simp
theorem ins_del {L : List ByteArray} (r : Rise L) {k : ByteArray} (f : fnd L k = true) : insK (delK L k) k = L := by
  refine rise_uniq (insK_rise (delK_rise r k) (del_none r f)) r (fun x => ?_)
  rw [insK_mem, delK_mem r f]
  constructor
  · rintro (rfl | h)
    · exact (fnd_mem r).1 f
    · exact h.1
  · intro h
    by_cases e : x = k
    · exact Or.inl e
    · exact Or.inr ⟨h, e⟩

end Go.Proofs.Ytfedcghkohfhlaa
