/- Plain mathematics of trees: items, what a change makes of them; the items of a leaf. Plain mathematics of trees, on: pages by their numbers, kids between keys, a tree's items. Plain mathematics of trees, on: a kid changed, two in its place; a page added, or its halves. -/
import Derived.Test.YthdjghmipepppaaMi
namespace Go.Proofs.Ythdjghmipepppaa
open Go.RowKit
set_option linter.unusedVariables false
set_option linter.unusedSimpArgs false

/-- A key and its value. -/
abbrev It := ByteArray × ByteArray
theorem ltS_leS {a b : ByteArray} : leS a b = !ltS b a := by
  unfold leS
  cases h : ltS a b with
  | true => rw [ltS_asym h]; rfl
  | false =>
    cases k : ltS b a with
    | true =>
      have : a ≠ b := (ltS_ne k).symm
      rw [decide_eq_false this]; rfl
    | false => rw [decide_eq_true (ltS_total h k)]; rfl
theorem leS_refl (a : ByteArray) : leS a a = true := by unfold leS; rw [decide_eq_true rfl, Bool.or_true]
theorem leS_lt {a b c : ByteArray} (h : leS a b = true) (k : ltS b c = true) : ltS a c = true := by
  unfold leS at h
  simp only [Bool.or_eq_true, decide_eq_true_eq] at h
  rcases h with h | h
  · exact ltS_trans h k
  · rw [h]; exact k
theorem lt_leS {a b c : ByteArray} (h : ltS a b = true) (k : leS b c = true) : ltS a c = true := by
  unfold leS at k
  simp only [Bool.or_eq_true, decide_eq_true_eq] at k
  rcases k with k | k
  · exact ltS_trans h k
  · rw [← k]; exact h
theorem leS_trans {a b c : ByteArray} (h : leS a b = true) (k : leS b c = true) : leS a c = true := by
  unfold leS at h
  simp only [Bool.or_eq_true, decide_eq_true_eq] at h
  rcases h with h | h
  · unfold leS; rw [lt_leS h k]; rfl
  · rw [h]; exact k
theorem lt_le {a b : ByteArray} (h : ltS a b = true) : leS a b = true := by unfold leS; rw [h]; rfl
theorem leS_not {a b : ByteArray} (h : leS a b = true) : ltS b a = false := by rw [ltS_leS] at h; simpa using h
theorem not_leS {a b : ByteArray} (h : ltS b a = false) : leS a b = true := by rw [ltS_leS, h]; rfl

/-- Items that rise. -/
def Srt (L : List It) : Prop := L.Pairwise (fun a b => ltS a.1 b.1 = true)
/-- One put in; one taken out. -/
def putL (L : List It) (k v : ByteArray) : List It := L.filter (fun x => ltS x.1 k) ++ (k, v) :: L.filter (fun x => ltS k x.1)
def dropL (L : List It) (k : ByteArray) : List It := L.filter (fun x => ltS x.1 k) ++ L.filter (fun x => ltS k x.1)
theorem filt_all {α : Type} {f : α → Bool} {L : List α} (h : ∀ x ∈ L, f x = true) : L.filter f = L := List.filter_eq_self.2 h
theorem filt_none {α : Type} {f : α → Bool} {L : List α} (h : ∀ x ∈ L, f x = false) : L.filter f = [] := List.filter_eq_nil_iff.2 (fun x hx => by rw [h x hx]; simp)
theorem putL_mid {A M B : List It} {k : ByteArray} (v : ByteArray) (ha : ∀ x ∈ A, ltS x.1 k = true) (hb : ∀ x ∈ B, ltS k x.1 = true) : putL (A ++ M ++ B) k v = A ++ putL M k v ++ B := by
  unfold putL
  simp only [List.filter_append]
  rw [filt_all ha, filt_none (L := A) (f := fun x => ltS k x.1) (fun x hx => ltS_asym (ha x hx)), filt_none (L := B) (f := fun x => ltS x.1 k) (fun x hx => ltS_asym (hb x hx)), filt_all hb]
  simp
theorem dropL_mid {A M B : List It} {k : ByteArray} (ha : ∀ x ∈ A, ltS x.1 k = true) (hb : ∀ x ∈ B, ltS k x.1 = true) : dropL (A ++ M ++ B) k = A ++ dropL M k ++ B := by
  unfold dropL
  simp only [List.filter_append]
  rw [filt_all ha, filt_none (L := A) (f := fun x => ltS k x.1) (fun x hx => ltS_asym (ha x hx)), filt_none (L := B) (f := fun x => ltS x.1 k) (fun x hx => ltS_asym (hb x hx)), filt_all hb]
  simp
theorem putL_mem {L : List It} {k v : ByteArray} {x : It} (h : x ∈ putL L k v) : x = (k, v) ∨ x ∈ L := by
  unfold putL at h
  rcases List.mem_append.1 h with q | q
  · exact Or.inr (List.mem_filter.1 q).1
  · rcases List.mem_cons.1 q with q | q
    · exact Or.inl q
    · exact Or.inr (List.mem_filter.1 q).1
theorem putL_ne (L : List It) (k v : ByteArray) : putL L k v ≠ [] := by unfold putL; simp
theorem putL_len (L : List It) (k v : ByteArray) : (putL L k v).length ≤ L.length + 1 := by
  unfold putL
  have h : ∀ M : List It, (M.filter (fun x => ltS x.1 k)).length + (M.filter (fun x => ltS k x.1)).length ≤ M.length := by
    intro M
    induction M with
    | nil => simp
    | cons a M ih =>
      cases p : ltS a.1 k with
      | true => simp [p, ltS_asym p]; omega
      | false => cases q : ltS k a.1 <;> simp [p, q] <;> omega
  rw [List.length_append, List.length_cons]
  exact Nat.succ_le_succ (h L)
theorem dropL_mem {L : List It} {k : ByteArray} {x : It} (h : x ∈ dropL L k) : x ∈ L ∧ x.1 ≠ k := by
  unfold dropL at h
  rcases List.mem_append.1 h with q | q
  · have := List.mem_filter.1 q; exact ⟨this.1, ltS_ne this.2⟩
  · have := List.mem_filter.1 q; exact ⟨this.1, (ltS_ne this.2).symm⟩
theorem putL_srt {L : List It} (h : Srt L) (k v : ByteArray) : Srt (putL L k v) := by
  unfold Srt putL at *
  rw [List.pairwise_append, List.pairwise_cons]
  refine ⟨h.filter _, ⟨fun b hb => (List.mem_filter.1 hb).2, h.filter _⟩, fun a ha b hb => ?_⟩
  have p := (List.mem_filter.1 ha).2
  rcases List.mem_cons.1 hb with rfl | hb
  · exact p
  · exact ltS_trans p (List.mem_filter.1 hb).2
theorem dropL_srt {L : List It} (h : Srt L) (k : ByteArray) : Srt (dropL L k) := by
  unfold Srt dropL at *
  rw [List.pairwise_append]
  exact ⟨h.filter _, h.filter _, fun a ha b hb => ltS_trans (List.mem_filter.1 ha).2 (List.mem_filter.1 hb).2⟩

/-- A leaf's items. -/
def zipK (ks vs : List ByteArray) : List It := ks.zip vs
theorem zipK_len {ks vs : List ByteArray} (h : vs.length = ks.length) : (zipK ks vs).length = ks.length := by unfold zipK; rw [List.length_zip]; omega
theorem zipK_at {ks vs : List ByteArray} (h : vs.length = ks.length) {i : Nat} (hi : i < ks.length) : (zipK ks vs)[i]? = some (kAt ks i, kAt vs i) := by
  unfold zipK
  rw [List.getElem?_zip_eq_some]
  refine ⟨?_, ?_⟩
  · show ks[i]? = some (kAt ks i)
    rw [kAt_get hi]; exact List.getElem?_eq_getElem hi
  · show vs[i]? = some (kAt vs i)
    rw [kAt_get (by omega)]; exact List.getElem?_eq_getElem (by omega)
theorem zipK_mem {ks vs : List ByteArray} (h : vs.length = ks.length) {x : It} (hx : x ∈ zipK ks vs) : ∃ i, i < ks.length ∧ x = (kAt ks i, kAt vs i) := by
  obtain ⟨i, hi, rfl⟩ := List.mem_iff_getElem.1 hx
  have hl := zipK_len h
  refine ⟨i, by omega, ?_⟩
  have := zipK_at h (i := i) (by omega)
  rw [List.getElem?_eq_getElem hi] at this
  exact Option.some.inj this
theorem zipK_take (ks vs : List ByteArray) (n : Nat) : zipK (ks.take n) (vs.take n) = (zipK ks vs).take n := by unfold zipK List.zip; rw [List.take_zipWith]
theorem zipK_drop (ks vs : List ByteArray) (n : Nat) : zipK (ks.drop n) (vs.drop n) = (zipK ks vs).drop n := by unfold zipK List.zip; rw [List.drop_zipWith]
theorem zipK_app {a b c d : List ByteArray} (h : a.length = b.length) : zipK (a ++ c) (b ++ d) = zipK a b ++ zipK c d := by unfold zipK; exact List.zip_append h
theorem zipK_srt {ks vs : List ByteArray} (h : vs.length = ks.length) (r : Rise ks) : Srt (zipK ks vs) := by
  unfold Srt
  rw [List.pairwise_iff_getElem]
  intro i j hi hj hij
  have hl := zipK_len h
  have e1 := zipK_at h (i := i) (by omega)
  have e2 := zipK_at h (i := j) (by omega)
  rw [List.getElem?_eq_getElem hi] at e1
  rw [List.getElem?_eq_getElem hj] at e2
  rw [Option.some.inj e1, Option.some.inj e2]
  exact r i j hij (by omega)
/-- Below a key are the first, as many as there are below it; above it the others. -/
theorem zipK_below {ks vs : List ByteArray} (h : vs.length = ks.length) (r : Rise ks) (k : ByteArray) : (zipK ks vs).filter (fun x => ltS x.1 k) = (zipK ks vs).take (posS ks k) := by
  conv => lhs; rw [← List.take_append_drop (posS ks k) (zipK ks vs)]
  rw [List.filter_append, filt_all, filt_none, List.append_nil]
  · intro x hx
    rw [← zipK_drop] at hx
    obtain ⟨i, hi, rfl⟩ := zipK_mem (by simp [h]) hx
    simp only [List.length_drop] at hi
    rw [kAt_drop]
    exact pos_gt r (by omega) (by omega)
  · intro x hx
    rw [← zipK_take] at hx
    obtain ⟨i, hi, rfl⟩ := zipK_mem (by simp [h]) hx
    simp only [List.length_take] at hi
    rw [kAt_take (by omega)]
    exact pos_lt (by omega)
theorem zipK_above {ks vs : List ByteArray} (h : vs.length = ks.length) (r : Rise ks) (k : ByteArray) : (zipK ks vs).filter (fun x => ltS k x.1) = (zipK ks vs).drop (plS ks k) := by
  conv => lhs; rw [← List.take_append_drop (plS ks k) (zipK ks vs)]
  have pl := plS_le ks k
  rw [List.filter_append, filt_none, filt_all, List.nil_append]
  · intro x hx
    rw [← zipK_drop] at hx
    obtain ⟨i, hi, rfl⟩ := zipK_mem (by simp [h]) hx
    simp only [List.length_drop] at hi
    rw [kAt_drop]
    have q := pos_gt r (x := k) (t := plS ks k + i) (by unfold plS; omega) (by omega)
    cases e : ltS k (kAt ks (plS ks k + i)) with
    | true => rfl
    | false =>
      have t := ltS_total q e
      have f : fnd ks k = true := (fnd_mem r).2 (by rw [← t, kAt_get (by omega)]; exact List.getElem_mem _)
      have g := fnd_true f
      have lt : ltS (kAt ks (posS ks k)) (kAt ks (plS ks k + i)) = true := r _ _ (by unfold plS; rw [f]; simp; omega) (by omega)
      rw [g.2, t, ltS_irrefl] at lt
      cases lt
  · intro x hx
    rw [← zipK_take] at hx
    obtain ⟨i, hi, rfl⟩ := zipK_mem (by simp [h]) hx
    simp only [List.length_take] at hi
    rw [kAt_take (by omega)]
    rcases Nat.lt_or_ge i (posS ks k) with q | q
    · exact ltS_asym (pos_lt q)
    · cases f : fnd ks k with
      | false => simp [plS, f] at hi; omega
      | true =>
        have e : i = posS ks k := by simp [plS, f] at hi; omega
        rw [e, (fnd_true f).2]
        exact ltS_irrefl k
/-- What is put into a leaf, and taken out of it. -/
theorem zip_put {p : Pg} (h : p.vals.length = p.keys.length) (r : Rise p.keys) (k v : ByteArray) : zipK (putP p k v).keys (putP p k v).vals = putL (zipK p.keys p.vals) k v := by
  unfold putL
  rw [zipK_below h r, zipK_above h r]
  have pl := pos_le p.keys k
  cases f : fnd p.keys k with
  | true =>
    have g := fnd_true f
    rw [putP_yes f]
    simp only
    have e : plS p.keys k = posS p.keys k + 1 := by unfold plS; rw [f]; rfl
    rw [e, ← zipK_take, ← zipK_drop]
    have ek : p.keys = p.keys.take (posS p.keys k) ++ k :: p.keys.drop (posS p.keys k + 1) := by
      conv => lhs; rw [← List.take_append_drop (posS p.keys k) p.keys]
      rw [List.drop_eq_getElem_cons g.1, ← kAt_get g.1, g.2]
    generalize posS p.keys k = P at *
    have g1 := g.1
    generalize p.keys = ks at *
    unfold setAt
    have z : zipK ks (p.vals.take P ++ v :: p.vals.drop (P + 1)) = zipK (ks.take P ++ k :: ks.drop (P + 1)) (p.vals.take P ++ v :: p.vals.drop (P + 1)) := by rw [← ek]
    rw [z, zipK_app (by simp; omega)]
    rfl
  | false =>
    rw [putP_no f]
    simp only
    have e : plS p.keys k = posS p.keys k := by unfold plS; rw [f]; rfl
    rw [e, ← zipK_take, ← zipK_drop]
    unfold insAt
    rw [zipK_app (by simp; omega)]
    rfl
theorem zip_drop {p : Pg} (h : p.vals.length = p.keys.length) (r : Rise p.keys) (k : ByteArray) (f : fnd p.keys k = true) : zipK (dropP p k).keys (dropP p k).vals = dropL (zipK p.keys p.vals) k := by
  unfold dropL
  rw [zipK_below h r, zipK_above h r, dropP_yes f]
  simp only
  have g := fnd_true f
  have e : plS p.keys k = posS p.keys k + 1 := by unfold plS; rw [f]; rfl
  rw [e, ← zipK_take, ← zipK_drop]
  unfold delAt
  rw [zipK_app (by simp; omega)]

end Go.Proofs.Ythdjghmipepppaa

namespace Go.Proofs.Ythdjghmipepppaa
open Go.RowKit
set_option linter.unusedVariables false
set_option linter.unusedSimpArgs false

/-- A page by its number. -/
def pgAt (sh : List Pg) (n : Nat) : Option Pg := if n = 0 then none else sh[n - 1]?
theorem pgAt_app {sh : List Pg} {n : Nat} {p : Pg} (h : pgAt sh n = some p) (t : List Pg) : pgAt (sh ++ t) n = some p := by
  unfold pgAt at h ⊢
  by_cases c : n = 0
  · rw [if_pos c] at h; cases h
  · rw [if_neg c] at h ⊢
    rw [List.getElem?_append_left (by have := lt_of_some h; omega)]
    exact h
theorem pgAt_new (sh : List Pg) (p : Pg) (t : List Pg) : pgAt (sh ++ p :: t) (sh.length + 1) = some p := by
  unfold pgAt
  rw [if_neg (by omega), Nat.add_sub_cancel, List.getElem?_append_right (Nat.le_refl _)]
  simp
theorem pgAt_new2 (sh : List Pg) (p q : Pg) : pgAt (sh ++ [p, q]) (sh.length + 2) = some q := by
  unfold pgAt
  rw [if_neg (by omega), List.getElem?_append_right (by omega)]
  simp

/-- A kid: its number, its items, what it has in hand. -/
structure Seg where
  n : Nat
  L : List It
  f : Nat
def fsum : List Seg → Nat
  | [] => 0
  | s :: S => s.f + fsum S
theorem fsum_app : ∀ A B : List Seg, fsum (A ++ B) = fsum A + fsum B
  | [], B => by simp [fsum]
  | s :: A, B => by simp only [List.cons_append, fsum, fsum_app A B]; omega
def lall (S : List Seg) : List It := S.flatMap (·.L)
theorem lall_app (A B : List Seg) : lall (A ++ B) = lall A ++ lall B := by unfold lall; rw [List.flatMap_append]
theorem lall_cons (s : Seg) (S : List Seg) : lall (s :: S) = s.L ++ lall S := rfl
theorem lall_mem {S : List Seg} {x : It} (h : x ∈ lall S) : ∃ (j : Nat) (s : Seg), S[j]? = some s ∧ x ∈ s.L := by
  unfold lall at h
  obtain ⟨s, hs, hx⟩ := List.mem_flatMap.1 h
  obtain ⟨j, hj, rfl⟩ := List.mem_iff_getElem.1 hs
  exact ⟨j, S[j], List.getElem?_eq_getElem hj, hx⟩
theorem split_at {α : Type} {l : List α} {i : Nat} {x : α} (h : l[i]? = some x) : l = l.take i ++ x :: l.drop (i + 1) := by
  have hi := lt_of_some h
  rw [List.getElem?_eq_getElem hi] at h
  have e := Option.some.inj h
  conv => lhs; rw [← List.take_append_drop i l, List.drop_eq_getElem_cons hi, e]
/-- Two in the place of one. -/
def ins2 {α : Type} (l : List α) (i : Nat) (x y : α) : List α := l.take i ++ x :: y :: l.drop (i + 1)
theorem set_get {α : Type} {l : List α} {i : Nat} {x : α} (hi : i < l.length) (j : Nat) : (setAt l i x)[j]? = if j = i then some x else l[j]? := by
  unfold setAt
  have e : (l.take i).length = i := by simp; omega
  by_cases c : j < i
  · rw [List.getElem?_append_left (by omega), if_neg (by omega), List.getElem?_take, if_pos c]
  · rw [List.getElem?_append_right (by omega), e]
    by_cases d : j = i
    · subst d; simp
    · rw [if_neg d, show j - i = (j - i - 1) + 1 by omega, List.getElem?_cons_succ, List.getElem?_drop]
      congr 1
      omega
theorem insG_get {α : Type} {l : List α} {i : Nat} {x : α} (hi : i ≤ l.length) (j : Nat) : (insAt l i x)[j]? = if j < i then l[j]? else if j = i then some x else l[j - 1]? := by
  unfold insAt
  have e : (l.take i).length = i := by simp; omega
  by_cases c : j < i
  · rw [List.getElem?_append_left (by omega), if_pos c, List.getElem?_take, if_pos c]
  · rw [List.getElem?_append_right (by omega), e, if_neg c]
    by_cases d : j = i
    · subst d; simp
    · rw [if_neg d, show j - i = (j - i - 1) + 1 by omega, List.getElem?_cons_succ, List.getElem?_drop]
      congr 1
      omega
theorem ins2_get {α : Type} {l : List α} {i : Nat} {x y : α} (hi : i < l.length) (j : Nat) : (ins2 l i x y)[j]? = if j < i then l[j]? else if j = i then some x else if j = i + 1 then some y else l[j - 1]? := by
  unfold ins2
  have e : (l.take i).length = i := by simp; omega
  by_cases c : j < i
  · rw [List.getElem?_append_left (by omega), if_pos c, List.getElem?_take, if_pos c]
  · rw [List.getElem?_append_right (by omega), e, if_neg c]
    by_cases d : j = i
    · subst d; simp
    · rw [if_neg d, show j - i = (j - i - 1) + 1 by omega, List.getElem?_cons_succ]
      by_cases g : j = i + 1
      · subst g; simp
      · rw [if_neg g, show j - i - 1 = (j - i - 2) + 1 by omega, List.getElem?_cons_succ, List.getElem?_drop]
        congr 1
        omega
theorem kAt_of {ks : List ByteArray} {i : Nat} {x : ByteArray} (h : ks[i]? = some x) : kAt ks i = x := by unfold kAt List.getD; rw [h]; rfl
theorem kAt_ins {ks : List ByteArray} {i : Nat} {x : ByteArray} (hi : i ≤ ks.length) (j : Nat) : kAt (insAt ks i x) j = if j < i then kAt ks j else if j = i then x else kAt ks (j - 1) := by
  have := insG_get (x := x) hi j
  unfold kAt List.getD
  rw [this]
  by_cases c : j < i
  · rw [if_pos c, if_pos c]
  · rw [if_neg c, if_neg c]
    by_cases d : j = i
    · rw [if_pos d, if_pos d]; rfl
    · rw [if_neg d, if_neg d]

/-- Kids in order, between keys. -/
structure Bt (P : Nat → List It → Nat → Prop) (ks : List ByteArray) (S : List Seg) : Prop where
  len : S.length = ks.length + 1
  ok : ∀ (j : Nat) (s : Seg), S[j]? = some s → P s.n s.L s.f ∧ s.L ≠ []
  lo : ∀ (j : Nat) (s : Seg), S[j]? = some s → 0 < j → ∀ x ∈ s.L, leS (kAt ks (j - 1)) x.1 = true
  hi : ∀ (j : Nat) (s : Seg), S[j]? = some s → j < ks.length → ∀ x ∈ s.L, ltS x.1 (kAt ks j) = true
theorem Bt.mono {P Q : Nat → List It → Nat → Prop} {ks : List ByteArray} {S : List Seg} (h : Bt P ks S) (k : ∀ n L f, P n L f → Q n L f) : Bt Q ks S :=
  ⟨h.len, fun j s hj => ⟨k _ _ _ (h.ok j s hj).1, (h.ok j s hj).2⟩, h.lo, h.hi⟩
/-- A page that heads a tree, its kids on a shelf. -/
def Tp (T : Nat → List It → Nat → Prop) (p : Pg) (L : List It) (f : Nat) : Prop :=
  goodB p = true ∧ p.keys ≠ [] ∧ ((p.leaf = true ∧ L = zipK p.keys p.vals ∧ f = 0) ∨ (p.leaf = false ∧ ∃ S, p.kids = S.map (·.n) ∧ L = lall S ∧ f = fsum S + (S.length - 11) ∧ Bt T p.keys S))
theorem Tp.mono {P Q : Nat → List It → Nat → Prop} {p : Pg} {L : List It} {f : Nat} (h : Tp P p L f) (k : ∀ n L f, P n L f → Q n L f) : Tp Q p L f := by
  obtain ⟨g, ne, h | ⟨l, S, h1, h2, h3, h4⟩⟩ := h
  · exact ⟨g, ne, Or.inl h⟩
  · exact ⟨g, ne, Or.inr ⟨l, S, h1, h2, h3, h4.mono k⟩⟩
/-- The tree of a number, at most r pages deep: its items, what it has in hand. -/
def Tr (sh : List Pg) : Nat → Nat → List It → Nat → Prop
  | 0, _, _, _ => False
  | r + 1, n, L, f => ∃ p, pgAt sh n = some p ∧ Tp (Tr sh r) p L f ∧ (p.leaf = true → (encP p).length ≤ 900)
theorem Tr.app {sh : List Pg} (t : List Pg) : ∀ {r n : Nat} {L : List It} {f : Nat}, Tr sh r n L f → Tr (sh ++ t) r n L f
  | 0, _, _, _, h => h
  | r + 1, n, L, f, ⟨p, h1, h2, h3⟩ => ⟨p, pgAt_app h1 t, h2.mono (fun _ _ _ q => Tr.app t q), h3⟩
theorem Tr.up {sh : List Pg} : ∀ {r n : Nat} {L : List It} {f : Nat}, Tr sh r n L f → Tr sh (r + 1) n L f
  | 0, _, _, _, h => False.elim h
  | r + 1, n, L, f, ⟨p, h1, h2, h3⟩ => ⟨p, h1, h2.mono (fun _ _ _ q => Tr.up q), h3⟩
theorem Tr.num {sh : List Pg} {r n : Nat} {L : List It} {f : Nat} (h : Tr sh r n L f) : 0 < n ∧ n ≤ sh.length := by
  cases r with
  | zero => exact False.elim h
  | succ r =>
    obtain ⟨p, h1, _⟩ := h
    unfold pgAt at h1
    by_cases c : n = 0
    · rw [if_pos c] at h1; cases h1
    · rw [if_neg c] at h1
      have := lt_of_some h1
      omega
theorem Tp.ne {T : Nat → List It → Nat → Prop} {p : Pg} {L : List It} {f : Nat} (h : Tp T p L f) : L ≠ [] := by
  obtain ⟨g, ne, ⟨l, rfl, _⟩ | ⟨l, S, h1, rfl, h3, h4⟩⟩ := h
  · have e := zipK_len (goodB_leaf g l).1
    intro q
    rw [q] at e
    simp at e
    exact ne (List.length_eq_zero_iff.1 e.symm)
  · have hl := h4.len
    obtain ⟨s, hs⟩ : ∃ s, S[0]? = some s := ⟨_, List.getElem?_eq_getElem (by omega)⟩
    have q := (h4.ok 0 s hs).2
    rw [split_at hs, lall_app, lall_cons]
    intro e
    simp at e
    exact q e.2.1
/-- How long keys and values are. -/
def Szd (L : List It) : Prop := ∀ x ∈ L, 1 ≤ x.1.size ∧ x.1.size ≤ 40 ∧ x.2.size ≤ 400
theorem Tp.szd {T : Nat → List It → Nat → Prop} {p : Pg} {L : List It} {f : Nat} (h : Tp T p L f) (k : ∀ n L f, T n L f → Szd L) : Szd L := by
  obtain ⟨g, ne, ⟨l, rfl, _⟩ | ⟨l, S, h1, rfl, h3, h4⟩⟩ := h
  · intro x hx
    have e := (goodB_leaf g l).1
    obtain ⟨i, hi, rfl⟩ := zipK_mem e hx
    have q := (leaf_keys g).2 i hi
    exact ⟨q.1, q.2, valsB_at (goodB_parts g).2.1 (by omega)⟩
  · intro x hx
    obtain ⟨j, s, hj, hx⟩ := lall_mem hx
    exact k _ _ _ (h4.ok j s hj).1 x hx
theorem Tr.szd {sh : List Pg} : ∀ {r n : Nat} {L : List It} {f : Nat}, Tr sh r n L f → Szd L
  | 0, _, _, _, h => False.elim h
  | r + 1, n, L, f, ⟨p, h1, h2, h3⟩ => h2.szd (fun _ _ _ q => Tr.szd q)
/-- Which kid has a key: all ahead are below it, all behind above. -/
theorem pl_le {ks : List ByteArray} {k : ByteArray} {j : Nat} (h : j < plS ks k) : leS (kAt ks j) k = true := by
  rcases Nat.lt_or_ge j (posS ks k) with q | q
  · exact lt_le (pos_lt q)
  · cases f : fnd ks k with
    | false => simp [plS, f] at h; omega
    | true =>
      have e : j = posS ks k := by simp [plS, f] at h; omega
      rw [e, (fnd_true f).2]
      exact leS_refl k
theorem pl_gt {ks : List ByteArray} (r : Rise ks) {k : ByteArray} {j : Nat} (h : plS ks k ≤ j) (hj : j < ks.length) : ltS k (kAt ks j) = true := by
  have q := pos_gt r (x := k) (t := j) (by unfold plS at h; omega) hj
  cases e : ltS k (kAt ks j) with
  | true => rfl
  | false =>
    have t := ltS_total q e
    have f : fnd ks k = true := (fnd_mem r).2 (by rw [← t, kAt_get hj]; exact List.getElem_mem _)
    have g := fnd_true f
    have lt : ltS (kAt ks (posS ks k)) (kAt ks j) = true := r _ _ (by unfold plS at h; rw [f] at h; simp at h; omega) hj
    rw [g.2, t, ltS_irrefl] at lt
    cases lt
theorem Bt.ahead {P : Nat → List It → Nat → Prop} {ks : List ByteArray} {S : List Seg} (h : Bt P ks S) {k : ByteArray} : ∀ x ∈ lall (S.take (plS ks k)), ltS x.1 k = true := by
  intro x hx
  obtain ⟨j, s, hj, hx⟩ := lall_mem hx
  have jl := lt_of_some hj
  have pl := plS_le ks k
  have hl := h.len
  simp only [List.length_take] at jl
  rw [List.getElem?_take, if_pos (by omega)] at hj
  exact lt_leS (h.hi j s hj (by omega) x hx) (pl_le (by omega))
theorem Bt.behind {P : Nat → List It → Nat → Prop} {ks : List ByteArray} {S : List Seg} (h : Bt P ks S) (r : Rise ks) {k : ByteArray} : ∀ x ∈ lall (S.drop (plS ks k + 1)), ltS k x.1 = true := by
  intro x hx
  obtain ⟨j, s, hj, hx⟩ := lall_mem hx
  have hl := h.len
  rw [List.getElem?_drop] at hj
  have jl := lt_of_some hj
  have := h.lo _ s hj (by omega) x hx
  exact lt_leS (pl_gt r (k := k) (j := plS ks k + 1 + j - 1) (by omega) (by omega)) this
theorem Tp.srt {T : Nat → List It → Nat → Prop} {p : Pg} {L : List It} {f : Nat} (h : Tp T p L f) (k : ∀ n L f, T n L f → Srt L) : Srt L := by
  obtain ⟨g, ne, ⟨l, rfl, _⟩ | ⟨l, S, h1, rfl, h3, h4⟩⟩ := h
  · exact zipK_srt (goodB_leaf g l).1 (leaf_keys g).1
  · have r := (leaf_keys g).1
    have key : ∀ (i j : Nat) (a b : Seg), S[i]? = some a → S[j]? = some b → i < j → ∀ x ∈ a.L, ∀ y ∈ b.L, ltS x.1 y.1 = true := by
      intro i j a b ha hb hij x hx y hy
      have hl := h4.len
      have jl := lt_of_some hb
      have e1 := h4.hi i a ha (by omega) x hx
      have e2 := h4.lo j b hb (by omega) y hy
      rcases Nat.lt_or_ge i (j - 1) with q | q
      · exact lt_leS (ltS_trans e1 (r i (j - 1) q (by omega))) e2
      · obtain rfl : i = j - 1 := by omega
        exact lt_leS e1 e2
    unfold Srt lall
    rw [List.pairwise_flatMap]
    refine ⟨fun s hs => ?_, ?_⟩
    · obtain ⟨j, hj, rfl⟩ := List.mem_iff_getElem.1 hs
      exact k _ _ _ (h4.ok j _ (List.getElem?_eq_getElem hj)).1
    · rw [List.pairwise_iff_getElem]
      intro i j hi hj hij x hx y hy
      exact key i j _ _ (List.getElem?_eq_getElem hi) (List.getElem?_eq_getElem hj) hij x hx y hy
theorem Tr.srt {sh : List Pg} : ∀ {r n : Nat} {L : List It} {f : Nat}, Tr sh r n L f → Srt L
  | 0, _, _, _, h => False.elim h
  | r + 1, n, L, f, ⟨p, h1, h2, h3⟩ => h2.srt (fun _ _ _ q => Tr.srt q)
theorem Tr.ne {sh : List Pg} {r n : Nat} {L : List It} {f : Nat} (h : Tr sh r n L f) : L ≠ [] := by
  cases r with
  | zero => exact False.elim h
  | succ r => obtain ⟨p, _, h2, _⟩ := h; exact h2.ne

end Go.Proofs.Ythdjghmipepppaa

namespace Go.Proofs.Ythdjghmipepppaa
open Go.RowKit
set_option linter.unusedVariables false
set_option linter.unusedSimpArgs false

theorem setLen {α : Type} {l : List α} {i : Nat} {x : α} (h : i < l.length) : (setAt l i x).length = l.length := setAt_len h
theorem ins2_len {α : Type} {l : List α} {i : Nat} {x y : α} (h : i < l.length) : (ins2 l i x y).length = l.length + 1 := by unfold ins2; simp; omega
theorem Bt.set {P Q : Nat → List It → Nat → Prop} {ks : List ByteArray} {S : List Seg} (h : Bt P ks S) (k : ∀ n L f, P n L f → Q n L f) {i : Nat} {sa : Seg} (hi : i < S.length) (qa : Q sa.n sa.L sa.f ∧ sa.L ≠ [])
    (lo : 0 < i → ∀ x ∈ sa.L, leS (kAt ks (i - 1)) x.1 = true) (up : i < ks.length → ∀ x ∈ sa.L, ltS x.1 (kAt ks i) = true) : Bt Q ks (setAt S i sa) := by
  refine ⟨by rw [setLen hi]; exact h.len, fun j s hj => ?_, fun j s hj => ?_, fun j s hj => ?_⟩
  all_goals
    rw [set_get hi] at hj
    by_cases c : j = i
    · rw [if_pos c] at hj
      obtain rfl := Option.some.inj hj
      subst c
      first | exact qa | exact lo | exact up
    · rw [if_neg c] at hj
      first | exact ⟨k _ _ _ (h.ok j s hj).1, (h.ok j s hj).2⟩ | exact h.lo j s hj | exact h.hi j s hj
theorem Bt.ins {P Q : Nat → List It → Nat → Prop} {ks : List ByteArray} {S : List Seg} (h : Bt P ks S) (k : ∀ n L f, P n L f → Q n L f) {i : Nat} {sa sb : Seg} {x : ByteArray} (hi : i < S.length) (qa : Q sa.n sa.L sa.f ∧ sa.L ≠ []) (qb : Q sb.n sb.L sb.f ∧ sb.L ≠ [])
    (lo : 0 < i → ∀ y ∈ sa.L, leS (kAt ks (i - 1)) y.1 = true) (m1 : ∀ y ∈ sa.L, ltS y.1 x = true) (m2 : ∀ y ∈ sb.L, leS x y.1 = true) (up : i < ks.length → ∀ y ∈ sb.L, ltS y.1 (kAt ks i) = true) : Bt Q (insAt ks i x) (ins2 S i sa sb) := by
  have hl := h.len
  have hk : i ≤ ks.length := by omega
  refine ⟨by rw [ins2_len hi, insAt_len hk, hl], fun j s hj => ?_, fun j s hj h0 y hy => ?_, fun j s hj hlt y hy => ?_⟩
  · rw [ins2_get hi] at hj
    by_cases c : j < i
    · rw [if_pos c] at hj
      exact ⟨k _ _ _ (h.ok j s hj).1, (h.ok j s hj).2⟩
    · rw [if_neg c] at hj
      by_cases d : j = i
      · rw [if_pos d] at hj; obtain rfl := Option.some.inj hj; exact qa
      · rw [if_neg d] at hj
        by_cases e : j = i + 1
        · rw [if_pos e] at hj; obtain rfl := Option.some.inj hj; exact qb
        · rw [if_neg e] at hj
          exact ⟨k _ _ _ (h.ok _ s hj).1, (h.ok _ s hj).2⟩
  · rw [ins2_get hi] at hj
    by_cases c : j < i
    · rw [if_pos c] at hj
      rw [kAt_ins hk, if_pos (by omega)]
      exact h.lo j s hj h0 y hy
    · rw [if_neg c] at hj
      by_cases d : j = i
      · rw [if_pos d] at hj
        obtain rfl := Option.some.inj hj
        rw [kAt_ins hk, if_pos (by omega), d]
        exact lo (by omega) y hy
      · rw [if_neg d] at hj
        by_cases e : j = i + 1
        · rw [if_pos e] at hj
          obtain rfl := Option.some.inj hj
          rw [kAt_ins hk, if_neg (by omega), if_pos (by omega)]
          exact m2 y hy
        · rw [if_neg e] at hj
          rw [kAt_ins hk, if_neg (by omega), if_neg (by omega)]
          exact h.lo (j - 1) s hj (by omega) y hy
  · rw [insAt_len hk] at hlt
    rw [ins2_get hi] at hj
    by_cases c : j < i
    · rw [if_pos c] at hj
      rw [kAt_ins hk, if_pos c]
      exact h.hi j s hj (by omega) y hy
    · rw [if_neg c] at hj
      by_cases d : j = i
      · rw [if_pos d] at hj
        obtain rfl := Option.some.inj hj
        rw [kAt_ins hk, if_neg c, if_pos d]
        exact m1 y hy
      · rw [if_neg d] at hj
        by_cases e : j = i + 1
        · rw [if_pos e] at hj
          obtain rfl := Option.some.inj hj
          rw [kAt_ins hk, if_neg c, if_neg d, e, Nat.add_sub_cancel]
          exact up (by omega) y hy
        · rw [if_neg e] at hj
          rw [kAt_ins hk, if_neg c, if_neg d]
          exact h.hi (j - 1) s hj (by omega) y hy
theorem Bt.take {P : Nat → List It → Nat → Prop} {ks : List ByteArray} {S : List Seg} (h : Bt P ks S) {m : Nat} (hm : m ≤ ks.length) : Bt P (ks.take m) (S.take (m + 1)) := by
  have hl := h.len
  have g : ∀ (j : Nat) (s : Seg), (S.take (m + 1))[j]? = some s → S[j]? = some s ∧ j < m + 1 := fun j s hj => by
    have := lt_of_some hj
    simp only [List.length_take] at this
    rw [List.getElem?_take, if_pos (by omega)] at hj
    exact ⟨hj, by omega⟩
  refine ⟨by simp; omega, fun j s hj => h.ok j s (g j s hj).1, fun j s hj h0 y hy => ?_, fun j s hj hlt y hy => ?_⟩
  · rw [kAt_take (by have := (g j s hj).2; omega)]
    exact h.lo j s (g j s hj).1 h0 y hy
  · simp only [List.length_take] at hlt
    rw [kAt_take (by omega)]
    exact h.hi j s (g j s hj).1 (by omega) y hy
theorem Bt.drop {P : Nat → List It → Nat → Prop} {ks : List ByteArray} {S : List Seg} (h : Bt P ks S) {m : Nat} (hm : m < ks.length) : Bt P (ks.drop (m + 1)) (S.drop (m + 1)) := by
  have hl := h.len
  refine ⟨by simp; omega, fun j s hj => ?_, fun j s hj h0 y hy => ?_, fun j s hj hlt y hy => ?_⟩
  · rw [List.getElem?_drop] at hj; exact h.ok _ s hj
  · rw [List.getElem?_drop] at hj
    have := h.lo _ s hj (by omega) y hy
    rw [kAt_drop, show m + 1 + (j - 1) = m + 1 + j - 1 by omega]
    exact this
  · rw [List.getElem?_drop] at hj
    simp only [List.length_drop] at hlt
    rw [kAt_drop]
    exact h.hi _ s hj (by omega) y hy
/-- Keys with kids between them rise. -/
theorem Bt.rise {P : Nat → List It → Nat → Prop} {ks : List ByteArray} {S : List Seg} (h : Bt P ks S) : Rise ks := by
  have hl := h.len
  have step : ∀ j, j + 1 < ks.length → ltS (kAt ks j) (kAt ks (j + 1)) = true := fun j hj => by
    obtain ⟨s, hs⟩ : ∃ s, S[j + 1]? = some s := ⟨_, List.getElem?_eq_getElem (by omega)⟩
    obtain ⟨x, hx⟩ := List.exists_mem_of_ne_nil _ (h.ok _ s hs).2
    exact leS_lt (h.lo _ s hs (by omega) x hx) (h.hi _ s hs hj x hx)
  intro i j hij hj
  induction j with
  | zero => omega
  | succ j ih =>
    rcases Nat.lt_or_ge i j with q | q
    · exact ltS_trans (ih q (by omega)) (step j hj)
    · obtain rfl : i = j := by omega
      exact step i hj
def Kz (ks : List ByteArray) : Prop := ∀ i, i < ks.length → 1 ≤ (kAt ks i).size ∧ (kAt ks i).size ≤ 40
theorem good_bt {sh : List Pg} {r : Nat} {ks : List ByteArray} {S : List Seg} (h : Bt (Tr sh r) ks S) (z : Kz ks) : goodB ⟨false, ks, [], S.map (·.n)⟩ = true := by
  unfold goodB
  simp only
  rw [rise_keysB h.rise z, valsB_nil, kidsB_true (fun j hj => ?_)]
  · simp [shapeB, h.len]
  · simp only [List.length_map] at hj
    have e : (S.map (·.n)).getD j 0 = S[j].n := by simp [List.getD, hj]
    rw [e]
    have := (h.ok j _ (List.getElem?_eq_getElem hj)).1.num
    omega
theorem lall_at {S : List Seg} {i : Nat} {s : Seg} (h : S[i]? = some s) : lall S = lall (S.take i) ++ s.L ++ lall (S.drop (i + 1)) := by
  conv => lhs; rw [split_at h]
  rw [lall_app, lall_cons, List.append_assoc]
theorem lall_set (S : List Seg) (i : Nat) (sa : Seg) : lall (setAt S i sa) = lall (S.take i) ++ sa.L ++ lall (S.drop (i + 1)) := by
  unfold setAt; rw [lall_app, lall_cons, List.append_assoc]
theorem lall_ins (S : List Seg) (i : Nat) (sa sb : Seg) : lall (ins2 S i sa sb) = lall (S.take i) ++ (sa.L ++ sb.L) ++ lall (S.drop (i + 1)) := by
  unfold ins2; rw [lall_app, lall_cons, lall_cons]; simp
theorem fsum_at {S : List Seg} {i : Nat} {s : Seg} (h : S[i]? = some s) : fsum S = fsum (S.take i) + s.f + fsum (S.drop (i + 1)) := by
  conv => lhs; rw [split_at h]
  rw [fsum_app]; simp only [fsum]; omega
theorem fsum_set (S : List Seg) (i : Nat) (sa : Seg) : fsum (setAt S i sa) = fsum (S.take i) + sa.f + fsum (S.drop (i + 1)) := by
  unfold setAt; rw [fsum_app]; simp only [fsum]; omega
theorem fsum_ins (S : List Seg) (i : Nat) (sa sb : Seg) : fsum (ins2 S i sa sb) = fsum (S.take i) + (sa.f + sb.f) + fsum (S.drop (i + 1)) := by
  unfold ins2; rw [fsum_app]; simp only [fsum]; omega
theorem map_set (S : List Seg) (i : Nat) (sa : Seg) : (setAt S i sa).map (·.n) = setAt (S.map (·.n)) i sa.n := by unfold setAt; simp
theorem map_ins (S : List Seg) (i : Nat) (sa sb : Seg) : (ins2 S i sa sb).map (·.n) = ins2 (S.map (·.n)) i sa.n sb.n := by unfold ins2; simp

/-- What a page is split into. -/
def spA (p : Pg) : Pg := if p.leaf = true ∧ 2 ≤ p.keys.length then lfA p else if p.leaf = false ∧ 3 ≤ p.keys.length then brA p else p
def spK (p : Pg) : ByteArray := if p.leaf = true ∧ 2 ≤ p.keys.length then kAt p.keys (mid (szs p.keys p.vals)) else if p.leaf = false ∧ 3 ≤ p.keys.length then kAt p.keys (p.keys.length / 2) else ByteArray.empty
def spB (p : Pg) : Pg := if p.leaf = true ∧ 2 ≤ p.keys.length then lfB p else if p.leaf = false ∧ 3 ≤ p.keys.length then brB p else zeroP
/-- A page added, or its halves: the shelf, the first's number, the key between, the second's number (0: there is none). -/
def halv (sh : List Pg) (p : Pg) : List Pg × Nat × ByteArray × Nat :=
  if (encP p).length ≤ 900 then (sh ++ [p], sh.length + 1, ByteArray.empty, 0) else (sh ++ [spA p, spB p], sh.length + 1, spK p, sh.length + 2)
structure HR (sh : List Pg) (r : Nat) (leaf : Bool) (L : List It) (f : Nat) (q : List Pg × Nat × ByteArray × Nat) : Prop where
  sh : ∃ t, q.1 = sh ++ t ∧ t.length ≤ 2
  one : q.2.2.2 = 0 → Tr q.1 (r + 1) q.2.1 L f
  two : q.2.2.2 ≠ 0 → ∃ L1 L2 f1 f2, L = L1 ++ L2 ∧ Tr q.1 (r + 1) q.2.1 L1 f1 ∧ Tr q.1 (r + 1) q.2.2.2 L2 f2 ∧ (∀ x ∈ L1, ltS x.1 q.2.2.1 = true) ∧ (∀ x ∈ L2, leS q.2.2.1 x.1 = true) ∧ (1 ≤ q.2.2.1.size ∧ q.2.2.1.size ≤ 40) ∧ (leaf = true → f1 + f2 = 0) ∧ (leaf = false → f1 + f2 + 11 = f)
theorem encK_41 : ∀ ks : List ByteArray, (∀ s ∈ ks, s.size ≤ 40) → (encK ks).length ≤ 41 * ks.length
  | [], _ => by simp [encK]
  | s :: ks, h => by
    have := encK_41 ks (fun x hx => h x (by simp [hx]))
    have a := h s (by simp)
    have := encS_short (s := s) (by omega)
    simp only [encK, List.length_append, List.length_cons]
    omega
theorem encN_3 : ∀ is : List Nat, (∀ k ∈ is, k < 2097152) → (encN is).length ≤ 3 * is.length
  | [], _ => by simp [encN]
  | k :: is, h => by
    have := encN_3 is (fun x hx => h x (by simp [hx]))
    have := enc_len 2 k (by have := h k (by simp); omega)
    simp only [encN, List.length_append, List.length_cons]
    omega
theorem kz_mem {ks : List ByteArray} (z : Kz ks) : ∀ s ∈ ks, s.size ≤ 40 := fun s hs => by
  obtain ⟨i, hi, rfl⟩ := List.mem_iff_getElem.1 hs
  have := (z i hi).2
  rwa [kAt_get hi] at this
/-- A branch that is too great has many keys. -/
theorem many_keys {p : Pg} (g : goodB p = true) (l : p.leaf = false) (k : ∀ k ∈ p.kids, k < 2097152) (h : 900 < (encP p).length) : 21 ≤ p.keys.length := by
  rcases Nat.lt_or_ge p.keys.length 21 with q | q
  · have e := (goodB_branch g l).2
    have a := encK_41 p.keys (kz_mem (leaf_keys g).2)
    have b := encN_3 p.kids k
    rw [encP_branch l, List.length_append, List.length_append] at h
    unfold encH at h
    rw [enc_lt (by omega)] at h
    simp only [List.length_cons, List.length_nil] at h
    omega
  · exact q
theorem mid_fits2 {l : List Nat} (n2 : 2 ≤ l.length) (n127 : l.length ≤ 127) (each : ∀ i, i < l.length → l.getD i 0 ≤ 443) (all : sumL l ≤ 1350) : sumL (l.take (mid l)) + 2 ≤ 900 ∧ sumL (l.drop (mid l)) + 2 ≤ 900 := by
  obtain ⟨m1, m2⟩ := mid_bd n2
  have sp := sumL_split l (mid l)
  have c1 : cF l (mid l) = false := dn_end l _
  have first : sumL (l.take (mid l)) + 2 ≤ 900 := by
    rcases Nat.lt_or_ge 1 (mid l) with q | q
    · unfold cF crB at c1
      rw [decide_eq_true q, Bool.true_and, hd2 (by omega)] at c1
      have := of_decide_eq_false c1
      omega
    · have e : mid l = 0 + 1 := by omega
      rw [e, sumL_snoc (by omega)]
      have := each 0 (by omega)
      simp [sumL] at this ⊢
      omega
  refine ⟨first, ?_⟩
  rcases dn_more l (top l) with q | q
  · have q' : mid l = top l := q
    have c2 : cS l (top l) = false := up_end l _ _ (by omega)
    rw [← q'] at c2
    rcases Nat.lt_or_ge 1 (l.length - mid l) with r | r
    · unfold cS crB at c2
      rw [decide_eq_true r, Bool.true_and, hd2 (by omega)] at c2
      have := of_decide_eq_false c2
      omega
    · have e := sumL_snoc (l := l) (k := mid l) (by omega)
      have f := sumL_split l (mid l + 1)
      have z : l.drop (mid l + 1) = [] := List.drop_of_length_le (by omega)
      rw [z] at f
      simp only [sumL] at f
      have := each (mid l) m2
      omega
  · have q' : cF l (mid l + 1) = true := q
    unfold cF crB at q'
    rw [hd2 (by omega)] at q'
    simp only [Bool.and_eq_true, decide_eq_true_eq] at q'
    have e := sumL_snoc (l := l) (k := mid l) m2
    have := each (mid l) m2
    omega
theorem szs_443 {ks vs : List ByteArray} (e : vs.length = ks.length) (z : Kz ks) (v : ∀ i, i < vs.length → (kAt vs i).size ≤ 400) : ∀ i, i < (szs ks vs).length → (szs ks vs).getD i 0 ≤ 443 := fun i hi => by
  rw [szs_len ks vs e] at hi
  rw [szs_at ks vs i e hi, List.length_append]
  have a := (z i hi).2
  have b := v i (by omega)
  have c := encS_short (s := kAt ks i) (by omega)
  have d := encS_mid b
  omega

end Go.Proofs.Ythdjghmipepppaa

