/- Pages that are asked of, their boxes; regions walked by hand; the reference's place and cut. -/
import Derived.Test.YthdjghmipepppaaMc
import Derived.Test.YthdjghmipepppaaMb
import Derived.Deep.RegionHeld3
import Derived.Test.YthdjghmipepppaaMe
import Derived.Test.YthdjghmipepppaaMd
namespace Go.Proofs.Ythdjghmipepppaa
open Go.RowKit
set_option linter.unusedVariables false
set_option linter.unusedSimpArgs false

theorem Small.bd {p : Pg} (s : Small p) (k : ∀ k ∈ p.kids, k < 18446744073709551616) : Bd p := by
  have a := s.keys
  have b := s.vals
  have c := s.kids
  have d := s.tot
  exact ⟨by omega, by omega, by omega, by omega, by omega, k⟩
theorem Small.fit {p : Pg} (s : Small p) (k : ∀ k ∈ p.kids, k < 18446744073709551616) (g : goodB p = true) : Fit p := by
  have a := s.keys
  have b := s.vals
  have c := s.kids
  have d := s.tot
  exact ⟨by omega, by omega, by omega, by omega, by omega, k, fun e => (goodB_leaf g e).1⟩
theorem Small.len {p : Pg} (s : Small p) (k : ∀ k ∈ p.kids, k < 18446744073709551616) : (encP p).length ≤ 20000 := by
  have a := s.keys
  have b := s.vals
  have c := s.kids
  have d := s.tot
  have t4 := enc_len10 (u := p.keys.length) (by omega)
  cases hl : p.leaf with
  | true =>
    rw [encP_leaf hl, List.length_append]
    have := encI_le p.keys p.vals (by omega) (by omega)
    unfold encH
    rw [List.length_cons]
    omega
  | false =>
    rw [encP_branch hl, List.length_append, List.length_append]
    have := encK_le p.keys (by omega)
    have := encN_le p.kids k
    unfold encH
    rw [List.length_cons]
    omega

theorem Pv.parts {w : World} {l : Bool} {a : Option Addr} {m c : Nat} {d : Option Addr} {n f : Nat} {g : Option Addr} {o h : Nat} {p : Pg} (P : Pv w (.agg #[.bool l, .slice a m c, .slice d n f, .slice g o h]) p) : l = p.leaf ∧ Sl w a m c (sv p.keys) ∧ Sl w d n f (sv p.vals) ∧ Sl w g o h (kv p.kids) := by
  obtain ⟨a', m', c', d', n', f', g', o', h', e, h1, h2, h3⟩ := P.ex
  simp at e
  obtain ⟨e0, ⟨rfl, rfl, rfl⟩, ⟨rfl, rfl, rfl⟩, rfl, rfl, rfl⟩ := e
  exact ⟨e0, h1, h2, h3⟩

def Pw (ks : List ByteArray) : Prop := ks.Pairwise (fun a b => ltS a b = true)
theorem rise_pw {ks : List ByteArray} : Rise ks ↔ Pw ks := by
  unfold Pw
  rw [List.pairwise_iff_getElem]
  constructor
  · intro h i j hi hj hij
    have := h i j hij hj
    rwa [kAt_get hi, kAt_get hj] at this
  · intro h i j hij hj
    rw [kAt_get (by omega), kAt_get hj]
    exact h i j (by omega) hj hij
theorem fnd_mem {L : List ByteArray} (r : Rise L) {x : ByteArray} : fnd L x = true ↔ x ∈ L := by
  constructor
  · intro h
    obtain ⟨a, b⟩ := fnd_true h
    rw [kAt_get a] at b
    rw [← b]
    exact List.getElem_mem a
  · intro h
    obtain ⟨i, hi, rfl⟩ := List.mem_iff_getElem.1 h
    have p : posS L L[i] = i := pos_is (by omega) (fun t ht => by have := r t i ht hi; rwa [kAt_get hi] at this) (fun _ => by rw [kAt_get hi]; exact ltS_irrefl _)
    unfold fnd
    rw [p]
    exact decide_eq_true ⟨hi, kAt_get hi⟩
theorem fnd_not {L : List ByteArray} (r : Rise L) {x : ByteArray} : fnd L x = false ↔ ¬ x ∈ L := by
  rw [← fnd_mem r]; simp
/-- One more, at its place. -/
def insK (L : List ByteArray) (k : ByteArray) : List ByteArray := insAt L (posS L k) k
def delK (L : List ByteArray) (k : ByteArray) : List ByteArray := delAt L (posS L k)
theorem insK_len (L : List ByteArray) (k : ByteArray) : (insK L k).length = L.length + 1 := insAt_len (pos_le L k)
theorem insK_mem {L : List ByteArray} {k x : ByteArray} : x ∈ insK L k ↔ x = k ∨ x ∈ L := by
  unfold insK insAt
  have e : x ∈ L ↔ x ∈ L.take (posS L k) ∨ x ∈ L.drop (posS L k) := by
    rw [← List.mem_append, List.take_append_drop]
  rw [List.mem_append, List.mem_cons, e]
  constructor
  · rintro (h | h | h)
    · exact Or.inr (Or.inl h)
    · exact Or.inl h
    · exact Or.inr (Or.inr h)
  · rintro (h | h | h)
    · exact Or.inr (Or.inl h)
    · exact Or.inl h
    · exact Or.inr (Or.inr h)
theorem insK_rise {L : List ByteArray} (r : Rise L) {k : ByteArray} (f : fnd L k = false) : Rise (insK L k) := by
  have lo : ∀ a ∈ L.take (posS L k), ltS a k = true := fun a ha => by
    obtain ⟨i, hi, rfl⟩ := List.mem_take_iff_getElem.1 ha
    have := pos_lt (ks := L) (x := k) (t := i) (by omega)
    rwa [kAt_get (by omega)] at this
  have up : ∀ b ∈ L.drop (posS L k), ltS k b = true := fun b hb => by
    obtain ⟨i, hi, rfl⟩ := List.mem_drop_iff_getElem.1 hb
    have q := pos_gt r (x := k) (t := posS L k + i) (by omega) (by omega)
    rw [kAt_get (by omega)] at q
    cases e : ltS k (L[posS L k + i]'(by omega)) with
    | true => rfl
    | false =>
      have t := ltS_total q e
      exact absurd (t ▸ List.getElem_mem (by omega)) ((fnd_not r).1 f)
  rw [rise_pw] at r ⊢
  have w : Pw (L.take (posS L k) ++ L.drop (posS L k)) := by rw [List.take_append_drop]; exact r
  unfold Pw at w ⊢
  rw [List.pairwise_append] at w
  unfold insK insAt
  rw [List.pairwise_append, List.pairwise_cons]
  refine ⟨w.1, ⟨up, w.2.1⟩, fun a ha b hb => ?_⟩
  rcases List.mem_cons.1 hb with rfl | hb
  · exact lo a ha
  · exact w.2.2 a ha b hb
theorem pw_uniq : ∀ {L M : List ByteArray}, Pw L → Pw M → (∀ x, x ∈ L ↔ x ∈ M) → L = M
  | [], [], _, _, _ => rfl
  | [], b :: M, _, _, h => by have := (h b).2 (by simp); cases this
  | a :: L, [], _, _, h => by have := (h a).1 (by simp); cases this
  | a :: L, b :: M, p, q, h => by
    unfold Pw at p q
    rw [List.pairwise_cons] at p q
    have e : a = b := by
      have h1 := (h a).1 (by simp)
      have h2 := (h b).2 (by simp)
      rcases List.mem_cons.1 h1 with x | x
      · exact x
      · rcases List.mem_cons.1 h2 with y | y
        · exact y.symm
        · have u := q.1 a x
          have v := p.1 b y
          rw [ltS_asym u] at v
          cases v
    subst e
    have na : ¬ a ∈ L := fun m => by have := p.1 a m; rw [ltS_irrefl] at this; cases this
    have nb : ¬ a ∈ M := fun m => by have := q.1 a m; rw [ltS_irrefl] at this; cases this
    rw [pw_uniq p.2 q.2 (fun x => ?_)]
    have hx := h x
    simp only [List.mem_cons] at hx
    constructor
    · intro m
      rcases hx.1 (Or.inr m) with y | y
      · subst y; exact absurd m na
      · exact y
    · intro m
      rcases hx.2 (Or.inr m) with y | y
      · subst y; exact absurd m nb
      · exact y
theorem rise_uniq {L M : List ByteArray} (p : Rise L) (q : Rise M) (h : ∀ x, x ∈ L ↔ x ∈ M) : L = M := pw_uniq (rise_pw.1 p) (rise_pw.1 q) h
theorem delK_rise {L : List ByteArray} (r : Rise L) (k : ByteArray) : Rise (delK L k) := by
  rw [rise_pw] at r ⊢
  unfold Pw at r ⊢
  refine List.Pairwise.sublist ?_ r
  unfold delK delAt
  have e : L.take (posS L k) ++ L.drop (posS L k) = L := List.take_append_drop _ _
  conv => rhs; rw [← e]
  refine List.Sublist.append (List.Sublist.refl _) ?_
  rw [← List.drop_drop]
  exact List.drop_sublist _ _
theorem delK_mem {L : List ByteArray} (r : Rise L) {k x : ByteArray} (f : fnd L k = true) : x ∈ delK L k ↔ x ∈ L ∧ x ≠ k := by
  obtain ⟨a, b⟩ := fnd_true f
  have e : L = L.take (posS L k) ++ k :: L.drop (posS L k + 1) := by
    conv => lhs; rw [← List.take_append_drop (posS L k) L]
    rw [List.drop_eq_getElem_cons a, ← kAt_get a, b]
  have w := rise_pw.1 r
  unfold Pw at w
  unfold delK delAt
  generalize L.take (posS L k) = A at *
  generalize L.drop (posS L k + 1) = B at *
  rw [e, List.pairwise_append, List.pairwise_cons] at w
  have nA : ¬ k ∈ A := fun m => by have := w.2.2 k m k (by simp); rw [ltS_irrefl] at this; cases this
  have nB : ¬ k ∈ B := fun m => by have := w.2.1.1 k m; rw [ltS_irrefl] at this; cases this
  rw [e]
  simp only [List.mem_append, List.mem_cons]
  constructor
  · rintro (h | h)
    · exact ⟨Or.inl h, fun q => nA (q ▸ h)⟩
    · exact ⟨Or.inr (Or.inr h), fun q => nB (q ▸ h)⟩
  · rintro ⟨h | h | h, q⟩
    · exact Or.inl h
    · exact absurd h q
    · exact Or.inr h
/-- A leaf whose values are its keys. -/
def lf (L : List ByteArray) : Pg := ⟨true, L, L, []⟩
theorem put_lf {L : List ByteArray} {k : ByteArray} (f : fnd L k = false) : putP (lf L) k k = lf (insK L k) := by
  rw [putP_no (p := lf L) f]; rfl
theorem drop_lf {L : List ByteArray} {k : ByteArray} (f : fnd L k = true) : dropP (lf L) k = lf (delK L k) := by
  rw [dropP_yes (p := lf L) f]; rfl
/-- Taken out, it is not there; put in again, the row is as it was. -/
theorem del_none {L : List ByteArray} (r : Rise L) {k : ByteArray} (f : fnd L k = true) : fnd (delK L k) k = false := by
  rw [fnd_not (delK_rise r k), delK_mem r f]
  simp
theorem ins_del {L : List ByteArray} (r : Rise L) {k : ByteArray} (f : fnd L k = true) : insK (delK L k) k = L := by
  refine rise_uniq (insK_rise (delK_rise r k) (del_none r f)) r (fun x => ?_)
  rw [insK_mem, delK_mem r f]
  constructor
  · rintro (rfl | h)
    · exact (fnd_mem r).1 f
    · exact h.1
  · intro h
    by_cases e : x = k
    · exact Or.inl e
    · exact Or.inr ⟨h, e⟩

theorem leaf_keys {p : Pg} (g : goodB p = true) : Rise p.keys ∧ ∀ i, i < p.keys.length → 1 ≤ (kAt p.keys i).size ∧ (kAt p.keys i).size ≤ 40 :=
  ⟨keysB_rise (goodB_parts g).1, fun i hi => kOk_size (keysB_at (goodB_parts g).1 hi)⟩
theorem good_leaf {ks vs : List ByteArray} (r : Rise ks) (s : ∀ i, i < ks.length → 1 ≤ (kAt ks i).size ∧ (kAt ks i).size ≤ 40) (v : ∀ i, i < vs.length → (kAt vs i).size ≤ 400) (l : vs.length = ks.length) : goodB ⟨true, ks, vs, []⟩ = true := by
  unfold goodB
  simp only
  rw [rise_keysB r s, valsB_true v, kidsB_nil]
  simp [shapeB, l]
theorem good_lfA {p : Pg} (g : goodB p = true) (l : p.leaf = true) : goodB (lfA p) = true := by
  obtain ⟨r, s⟩ := leaf_keys g
  have e := (goodB_leaf g l).1
  unfold lfA
  generalize mid (szs p.keys p.vals) = m
  refine good_leaf (r.take m) (fun i hi => ?_) (fun i hi => ?_) (by simp [e])
  · simp at hi
    rw [kAt_take (by omega)]
    exact s i (by omega)
  · simp at hi
    rw [kAt_take (by omega)]
    exact valsB_at (goodB_parts g).2.1 (by omega)
theorem good_lfB {p : Pg} (g : goodB p = true) (l : p.leaf = true) : goodB (lfB p) = true := by
  obtain ⟨r, s⟩ := leaf_keys g
  have e := (goodB_leaf g l).1
  unfold lfB
  generalize mid (szs p.keys p.vals) = m
  refine good_leaf (r.drop m) (fun i hi => ?_) (fun i hi => ?_) (by simp [e])
  · simp at hi
    rw [kAt_drop]
    exact s _ (by omega)
  · simp at hi
    rw [kAt_drop]
    exact valsB_at (goodB_parts g).2.1 (by omega)
theorem small_lfA {p : Pg} (s : Small p) : Small (lfA p) := by
  have a := s.keys
  have b := s.vals
  have d := s.tot
  unfold lfA
  generalize mid (szs p.keys p.vals) = m
  have := tot_take_le p.keys m
  have := tot_take_le p.vals m
  exact ⟨by simp; omega, by simp; omega, by simp, by simp only; omega⟩
theorem small_lfB {p : Pg} (s : Small p) : Small (lfB p) := by
  have a := s.keys
  have b := s.vals
  have d := s.tot
  unfold lfB
  generalize mid (szs p.keys p.vals) = m
  have := tot_drop_le p.keys m
  have := tot_drop_le p.vals m
  exact ⟨by simp; omega, by simp; omega, by simp, by simp only; omega⟩
theorem hd2 {n : Nat} (h : n < 128) : hd n = 2 := by unfold hd encH; rw [enc_lt h]; rfl
theorem encS_short {s : ByteArray} (h : s.size < 128) : (encS s).length = s.size + 1 := by rw [encS_len, enc_lt h]; simp; omega
theorem encS_mid {s : ByteArray} (h : s.size ≤ 400) : (encS s).length ≤ s.size + 2 := by
  rw [encS_len]
  have := enc_len 1 s.size (by omega)
  omega
/-- The halves of sizes that are not too great, none of them great. -/
theorem mid_fits {l : List Nat} (n2 : 2 ≤ l.length) (n60 : l.length ≤ 60) (each : ∀ i, i < l.length → l.getD i 0 ≤ 443) (all : sumL l ≤ 1338) : sumL (l.take (mid l)) + 2 ≤ 900 ∧ sumL (l.drop (mid l)) + 2 ≤ 900 := by
  obtain ⟨m1, m2⟩ := mid_bd n2
  have sp := sumL_split l (mid l)
  have c1 : cF l (mid l) = false := dn_end l _
  have first : sumL (l.take (mid l)) + 2 ≤ 900 := by
    rcases Nat.lt_or_ge 1 (mid l) with q | q
    · unfold cF crB at c1
      rw [decide_eq_true q, Bool.true_and, hd2 (by omega)] at c1
      have := of_decide_eq_false c1
      omega
    · have e : mid l = 0 + 1 := by omega
      rw [e, sumL_snoc (by omega)]
      have := each 0 (by omega)
      simp [sumL] at this ⊢
      omega
  refine ⟨first, ?_⟩
  rcases dn_more l (top l) with q | q
  · have q' : mid l = top l := q
    have c2 : cS l (top l) = false := up_end l _ _ (by omega)
    rw [← q'] at c2
    rcases Nat.lt_or_ge 1 (l.length - mid l) with r | r
    · unfold cS crB at c2
      rw [decide_eq_true r, Bool.true_and, hd2 (by omega)] at c2
      have := of_decide_eq_false c2
      omega
    · have e := sumL_snoc (l := l) (k := mid l) (by omega)
      have f := sumL_split l (mid l + 1)
      have z : l.drop (mid l + 1) = [] := List.drop_of_length_le (by omega)
      rw [z] at f
      simp only [sumL] at f
      have := each (mid l) m2
      omega
  · have q' : cF l (mid l + 1) = true := q
    unfold cF crB at q'
    rw [hd2 (by omega)] at q'
    simp only [Bool.and_eq_true, decide_eq_true_eq] at q'
    have e := sumL_snoc (l := l) (k := mid l) m2
    have := each (mid l) m2
    omega
/-- A good leaf's halves. -/
theorem halves_fit {p : Pg} (g : goodB p = true) (l : p.leaf = true) (s : Small p) (n2 : 2 ≤ p.keys.length) (h : (encP p).length ≤ 1340) : (encP (lfA p)).length ≤ 900 ∧ (encP (lfB p)).length ≤ 900 := by
  obtain ⟨lf, ks, vs, is⟩ := p
  simp only at l n2
  subst l
  have e : vs.length = ks.length := (goodB_leaf g rfl).1
  have sk : ks.length ≤ 60 := s.keys
  have sl := szs_len ks vs e
  rw [encP_leaf_len, hd2 (by omega)] at h
  have each : ∀ i, i < (szs ks vs).length → (szs ks vs).getD i 0 ≤ 443 := fun i hi => by
    rw [sl] at hi
    rw [szs_at ks vs i e hi, List.length_append]
    have a : (kAt ks i).size ≤ 40 := ((leaf_keys g).2 i hi).2
    have b : (kAt vs i).size ≤ 400 := valsB_at (goodB_parts g).2.1 (by simp only; omega)
    have c := encS_short (s := kAt ks i) (by omega)
    have d := encS_mid b
    omega
  have m := mid_bd (l := szs ks vs) (by omega)
  have f := mid_fits (l := szs ks vs) (by omega) (by omega) each (by omega)
  unfold lfA lfB
  simp only
  rw [encP_leaf_len, encP_leaf_len, szs_take, szs_drop, hd2 (by simp; omega), hd2 (by simp; omega)]
  omega

/-- What is held of the world may be said more strongly on the way. -/
theorem wpAnyH_strong {P : Program} {md : Region.Mode} {ops : Array Oper} {Q : Exit → Act → World → Prop} {S S' : World → Prop} (h : ∀ w, S' w → S w) : ∀ (fuel : Nat) (listed : Array Bool) (a : Act) (w : World), wpAnyH P md ops Q S' fuel listed a w → wpAnyH P md ops Q S fuel listed a w
  | 0, _, _, _, k => k
  | fuel + 1, _, _, _, k => ⟨k.1, fun i hi => wpOp_mono (fun a' w' h' => ⟨h _ h'.1, wpAnyH_strong h fuel _ a' w' h'.2⟩) (k.2 i hi)⟩
theorem take2 {P : Program} {md : Region.Mode} {ops : Array Oper} {Q : Exit → Act → World → Prop} {S : World → Prop} {l : List Oper} (hl : ops = l.toArray) {i : Nat} {oi : Oper} {v : Value} {d : Tmp} {fuel : Nat} {listed : Array Bool} {a : Act} {w : World} (hi : l[i]? = some oi) (hd : oi.dst = some d)
    (hs : Region.noSelect ops = true) (hf : Region.free md ops listed i = true) (hr : (Region.ready md ops listed).contains i = true)
    (hQ : ∀ c a w, Q (.panic c) (a.put oi.dst v) w → Q (.panic c) a w) (hy : YieldsIf P ops S oi v a) (hS : S w)
    (h : wpAnyH P md ops Q S fuel (listed.setIfInBounds i true) (a.put (some d) v) w) : wpAnyH P md ops Q S (fuel + 1) listed a w :=
  wpAnyH_take (by rw [hl]; simpa using hi) hs hf hr hQ hy hS (by rw [hd]; exact h)
theorem cons2 {P : Program} {md : Region.Mode} {ops : Array Oper} {Q : Exit → Act → World → Prop} {S : World → Prop} {l : List Oper} (hl : ops = l.toArray) {fuel : Nat} {listed : Array Bool} {a : Act} {w : World} {i : Nat} {o : Oper} (ho : l[i]? = some o)
    (h : ∀ K' : Act → World → Prop, Shut (∀ a w, S w → (S w → wpAnyH P md ops Q S fuel (listed.setIfInBounds i true) a w) → K' a w) → if Region.wanted o (yielded ops a.tmps) = true then Oper.wp P o a w K' Q else K' (a.put o.dst undef) w) :
    AllReadyH P md ops Q S fuel listed a w [i] := AllReadyH.cons (by rw [hl]; simpa using ho) h AllReadyH.nil

theorem cons22 {P : Program} {md : Region.Mode} {ops : Array Oper} {Q : Exit → Act → World → Prop} {S : World → Prop} {l : List Oper} (hl : ops = l.toArray) {fuel : Nat} {listed : Array Bool} {a : Act} {w : World} {i j : Nat} {o p : Oper} (ho : l[i]? = some o) (hp : l[j]? = some p)
    (h : ∀ K' : Act → World → Prop, Shut (∀ a w, S w → (S w → wpAnyH P md ops Q S fuel (listed.setIfInBounds i true) a w) → K' a w) → if Region.wanted o (yielded ops a.tmps) = true then Oper.wp P o a w K' Q else K' (a.put o.dst undef) w)
    (k : ∀ K' : Act → World → Prop, Shut (∀ a w, S w → (S w → wpAnyH P md ops Q S fuel (listed.setIfInBounds j true) a w) → K' a w) → if Region.wanted p (yielded ops a.tmps) = true then Oper.wp P p a w K' Q else K' (a.put p.dst undef) w) :
    AllReadyH P md ops Q S fuel listed a w [i, j] := AllReadyH.cons (by rw [hl]; simpa using ho) h (AllReadyH.cons (by rw [hl]; simpa using hp) k AllReadyH.nil)

/-- A page in a box of its own. -/
structure Bp (w : World) (A : Nat) (a : Option Addr) (m c : Nat) (d : Option Addr) (n f : Nat) (g : Option Addr) (o h : Nat) (p : Pg) : Prop where
  b4 : B4 w A (.bool p.leaf) (.slice a m c) (.slice d n f) (.slice g o h)
  past : ∀ i, 4 ≤ i → w.cell? ⟨A, i, none⟩ = none
  fz : ∀ i, w.frozen? ⟨A, i, none⟩ = false
  pv : Pv w (.agg #[.bool p.leaf, .slice a m c, .slice d n f, .slice g o h]) p
theorem Bp.below {w w' : World} {A : Nat} {a : Option Addr} {m c : Nat} {d : Option Addr} {n f : Nat} {g : Option Addr} {o h : Nat} {p : Pg} (P : Bp w A a m c d n f g o h p) (b : Below w.heap.size w w') : Bp w' A a m c d n f g o h p :=
  ⟨P.b4.below b, fun i hi => (World.cell?_of_block (w := w) (a := ⟨A, i, none⟩) (b.block A P.b4.lt)).trans (P.past i hi), frozen_kept P.fz (b.block A P.b4.lt), P.pv.below b⟩
theorem Bp.mk1 {w : World} {a : Option Addr} {m c : Nat} {d : Option Addr} {n f : Nat} {g : Option Addr} {o h : Nat} {p : Pg} (P : Pv w (.agg #[.bool p.leaf, .slice a m c, .slice d n f, .slice g o h]) p) (t : TypeId) :
    Bp (w.alloc (.cells #[.bool p.leaf, .slice a m c, .slice d n f, .slice g o h] t)) w.heap.size a m c d n f g o h p := by
  refine ⟨B4.new w _ _ _ _ t, fun i hi => ?_, fun i => World.frozen?_alloc_new _ _ _ i, P.below (allocB w _)⟩
  simp
  omega
/-- No text lies in a page's box. -/
theorem Bp.noStr {w : World} {A : Nat} {a : Option Addr} {m c : Nat} {d : Option Addr} {n f : Nat} {g : Option Addr} {o h : Nat} {p : Pg} (P : Bp w A a m c d n f g o h p) (i : Nat) (u : Value) (hu : w.cell? ⟨A, i, none⟩ = some u) : (∀ s, u ≠ .string s) ∧ ∀ z, u ≠ .int .u64 z := by
  rcases Nat.lt_or_ge i 4 with q | q
  · have e : i = 0 ∨ i = 1 ∨ i = 2 ∨ i = 3 := by omega
    rcases e with rfl | rfl | rfl | rfl
    · rw [P.b4.a0] at hu; cases hu; exact ⟨fun s => by simp, fun z => by simp⟩
    · rw [P.b4.a1] at hu; cases hu; exact ⟨fun s => by simp, fun z => by simp⟩
    · rw [P.b4.a2] at hu; cases hu; exact ⟨fun s => by simp, fun z => by simp⟩
    · rw [P.b4.a3] at hu; cases hu; exact ⟨fun s => by simp, fun z => by simp⟩
  · rw [P.past i q] at hu; cases hu
theorem Bp.offS {w : World} {A : Nat} {a : Option Addr} {m c : Nat} {d : Option Addr} {n f : Nat} {g : Option Addr} {o h : Nat} {p : Pg} (P : Bp w A a m c d n f g o h p) {a' : Option Addr} {n' c' : Nat} {ss : List ByteArray} (S : Sl w a' n' c' (sv ss)) : ∀ x, 0 < n' → a' = some x → x.block ≠ A := by
  intro x hn hx e
  obtain ⟨b, o, rfl, _⟩ := S.at hn
  have := S.str (i := 0) hn
  simp at hx
  subst hx
  simp only at e
  subst e
  exact (P.noStr _ _ this).1 _ rfl
theorem Bp.offK {w : World} {A : Nat} {a : Option Addr} {m c : Nat} {d : Option Addr} {n f : Nat} {g : Option Addr} {o h : Nat} {p : Pg} (P : Bp w A a m c d n f g o h p) {a' : Option Addr} {n' c' : Nat} {ks : List Nat} (S : Sl w a' n' c' (kv ks)) : ∀ x, 0 < n' → a' = some x → x.block ≠ A := by
  intro x hn hx e
  obtain ⟨b, o, rfl, _⟩ := S.at hn
  have := S.num (i := 0) hn
  simp at hx
  subst hx
  simp only at e
  subst e
  exact (P.noStr _ _ this).2 _ rfl
theorem Bp.off {w : World} {A : Nat} {a : Option Addr} {m c : Nat} {d : Option Addr} {n f : Nat} {g : Option Addr} {o h : Nat} {p q : Pg} {v : Value} (P : Bp w A a m c d n f g o h p) (Q : Pv w v q) : Off v A := by
  intro l a1 m1 c1 a2 m2 c2 a3 m3 c3 e
  subst e
  obtain ⟨ka, kn, kc, va, vn, vc, ia, im, ic, e, h1, h2, h3⟩ := Q.ex
  simp at e
  obtain ⟨_, ⟨rfl, rfl, rfl⟩, ⟨rfl, rfl, rfl⟩, rfl, rfl, rfl⟩ := e
  exact ⟨P.offS h1, P.offS h2, P.offK h3⟩
/-- A page's world with another page stored in its box. -/
def st4 (W : World) (r : Nat) (v0 v1 v2 v3 : Value) : World := (((W.setCell ⟨r, 0, none⟩ v0).setCell ⟨r, 1, none⟩ v1).setCell ⟨r, 2, none⟩ v2).setCell ⟨r, 3, none⟩ v3
theorem Bp.put {w : World} {A : Nat} {a : Option Addr} {m c : Nat} {d : Option Addr} {n f : Nat} {g : Option Addr} {o h : Nat} {p : Pg} (P : Bp w A a m c d n f g o h p) {a' : Option Addr} {m' c' : Nat} {d' : Option Addr} {n' f' : Nat} {g' : Option Addr} {o' h' : Nat} {q : Pg} (Q : Pv w (.agg #[.bool q.leaf, .slice a' m' c', .slice d' n' f', .slice g' o' h']) q) :
    Bp (st4 w A (.bool q.leaf) (.slice a' m' c') (.slice d' n' f') (.slice g' o' h')) A a' m' c' d' n' f' g' o' h' q ∧ w.grownBy (st4 w A (.bool q.leaf) (.slice a' m' c') (.slice d' n' f') (.slice g' o' h')) (some A) := by
  obtain ⟨s1, s2⟩ := stored4 P.b4 (.bool q.leaf) (.slice a' m' c') (.slice d' n' f') (.slice g' o' h')
  refine ⟨⟨s1, fun i hi => ?_, fun i => by unfold st4; simp [P.fz], Q.out s2 (P.off Q)⟩, s2⟩
  have ne : ∀ j, j < 4 → (⟨A, j, none⟩ : Addr) ≠ ⟨A, i, none⟩ := fun j hj k => by injection k with _ k; omega
  have ne' : ∀ j, j < 4 → (⟨A, i, none⟩ : Addr) ≠ ⟨A, j, none⟩ := fun j hj k => ne j hj k.symm
  unfold st4
  first
  | rw [World.cell?_setCell_other _ _ _ _ (ne 3 (by omega)), World.cell?_setCell_other _ _ _ _ (ne 2 (by omega)), World.cell?_setCell_other _ _ _ _ (ne 1 (by omega)), World.cell?_setCell_other _ _ _ _ (ne 0 (by omega))]; exact P.past i hi
  | rw [World.cell?_setCell_other _ _ _ _ (ne' 3 (by omega)), World.cell?_setCell_other _ _ _ _ (ne' 2 (by omega)), World.cell?_setCell_other _ _ _ _ (ne' 1 (by omega)), World.cell?_setCell_other _ _ _ _ (ne' 0 (by omega))]; exact P.past i hi
theorem Bp.far {w w' : World} {A B : Nat} {a : Option Addr} {m c : Nat} {d : Option Addr} {n f : Nat} {g : Option Addr} {o h : Nat} {p : Pg} (P : Bp w B a m c d n f g o h p) {a' : Option Addr} {m' c' : Nat} {d' : Option Addr} {n' f' : Nat} {g' : Option Addr} {o' h' : Nat} {q : Pg} (Q : Bp w A a' m' c' d' n' f' g' o' h' q) (gr : w.grownBy w' (some A)) (ne : A ≠ B) : Bp w' B a m c d n f g o h p := by
  have k := gr.block B P.b4.lt (by simpa using Ne.symm ne)
  exact ⟨P.b4.kept k, fun i hi => (World.cell?_of_block (w := w) (a := ⟨B, i, none⟩) k).trans (P.past i hi), frozen_kept P.fz k, P.pv.out gr (Q.off P.pv)⟩

/-- Two leaves in their boxes, their values their keys. -/
structure Oi (w wr : World) (A B : Nat) (La Lb : List ByteArray) (a : Option Addr) (m c : Nat) (d : Option Addr) (n f : Nat) (g : Option Addr) (o h : Nat) (a' : Option Addr) (m' c' : Nat) (d' : Option Addr) (n' f' : Nat) (g' : Option Addr) (o' h' : Nat) : Prop where
  one : Bp wr A a m c d n f g o h (lf La)
  two : Bp wr B a' m' c' d' n' f' g' o' h' (lf Lb)
  bel : Below w.heap.size w wr
  hA : w.heap.size ≤ A
  hB : w.heap.size ≤ B
  ne : A ≠ B
theorem Oi.below {w wr w2 : World} {A B : Nat} {La Lb : List ByteArray} {a : Option Addr} {m c : Nat} {d : Option Addr} {n f : Nat} {g : Option Addr} {o h : Nat} {a' : Option Addr} {m' c' : Nat} {d' : Option Addr} {n' f' : Nat} {g' : Option Addr} {o' h' : Nat}
    (O : Oi w wr A B La Lb a m c d n f g o h a' m' c' d' n' f' g' o' h') (b : Below wr.heap.size wr w2) : Oi w w2 A B La Lb a m c d n f g o h a' m' c' d' n' f' g' o' h' :=
  ⟨O.one.below b, O.two.below b, nextB O.bel b, O.hA, O.hB, O.ne⟩
theorem Oi.putA {w wr : World} {A B : Nat} {La Lb : List ByteArray} {a : Option Addr} {m c : Nat} {d : Option Addr} {n f : Nat} {g : Option Addr} {o h : Nat} {a' : Option Addr} {m' c' : Nat} {d' : Option Addr} {n' f' : Nat} {g' : Option Addr} {o' h' : Nat}
    (O : Oi w wr A B La Lb a m c d n f g o h a' m' c' d' n' f' g' o' h') {L : List ByteArray} {a2 : Option Addr} {m2 c2 : Nat} {d2 : Option Addr} {n2 f2 : Nat} {g2 : Option Addr} {o2 h2 : Nat} (Q : Pv wr (.agg #[.bool true, .slice a2 m2 c2, .slice d2 n2 f2, .slice g2 o2 h2]) (lf L)) :
    Oi w (st4 wr A (.bool true) (.slice a2 m2 c2) (.slice d2 n2 f2) (.slice g2 o2 h2)) A B L Lb a2 m2 c2 d2 n2 f2 g2 o2 h2 a' m' c' d' n' f' g' o' h' := by
  obtain ⟨k1, k2⟩ := O.one.put (q := lf L) Q
  exact ⟨k1, O.two.far O.one k2 O.ne, O.bel.grown k2 O.bel.size (fun k hk => by cases hk; exact O.hA), O.hA, O.hB, O.ne⟩
theorem Oi.putB {w wr : World} {A B : Nat} {La Lb : List ByteArray} {a : Option Addr} {m c : Nat} {d : Option Addr} {n f : Nat} {g : Option Addr} {o h : Nat} {a' : Option Addr} {m' c' : Nat} {d' : Option Addr} {n' f' : Nat} {g' : Option Addr} {o' h' : Nat}
    (O : Oi w wr A B La Lb a m c d n f g o h a' m' c' d' n' f' g' o' h') {L : List ByteArray} {a2 : Option Addr} {m2 c2 : Nat} {d2 : Option Addr} {n2 f2 : Nat} {g2 : Option Addr} {o2 h2 : Nat} (Q : Pv wr (.agg #[.bool true, .slice a2 m2 c2, .slice d2 n2 f2, .slice g2 o2 h2]) (lf L)) :
    Oi w (st4 wr B (.bool true) (.slice a2 m2 c2) (.slice d2 n2 f2) (.slice g2 o2 h2)) A B La L a m c d n f g o h a2 m2 c2 d2 n2 f2 g2 o2 h2 := by
  obtain ⟨k1, k2⟩ := O.two.put (q := lf L) Q
  exact ⟨O.one.far O.two k2 O.ne.symm, k1, O.bel.grown k2 O.bel.size (fun k hk => by cases hk; exact O.hB), O.hA, O.hB, O.ne⟩

/-- The keys put so far. -/
structure Lk (ks : List ByteArray) (M : Nat → Prop) (n : Nat) (L : List ByteArray) : Prop where
  rise : Rise L
  mem : ∀ x, x ∈ L ↔ ∃ j, M j ∧ j < ks.length ∧ kAt ks j = x
  len : L.length = n
  tot : tot L ≤ 40 * n
theorem Lk.nil (ks : List ByteArray) {M : Nat → Prop} (h : ∀ j, ¬ M j) : Lk ks M 0 [] :=
  ⟨fun i j _ hj => by simp at hj, fun x => ⟨fun h => (by cases h), fun ⟨j, hj, _⟩ => absurd hj (h j)⟩, rfl, by simp [Go.Proofs.Ythdjghmipepppaa.tot]⟩
theorem Lk.put {ks : List ByteArray} {M N : Nat → Prop} {n i : Nat} {L : List ByteArray} (h : Lk ks M n L) (hi : i < ks.length) (sz : (kAt ks i).size ≤ 40) (new : ∀ j, M j → j < ks.length → kAt ks j ≠ kAt ks i) (hN : ∀ j, N j ↔ M j ∨ j = i) :
    fnd L (kAt ks i) = false ∧ Lk ks N (n + 1) (insK L (kAt ks i)) := by
  have f : fnd L (kAt ks i) = false := (fnd_not h.rise).2 (fun m => by obtain ⟨j, h1, h2, h3⟩ := (h.mem _).1 m; exact new j h1 h2 h3)
  refine ⟨f, insK_rise h.rise f, fun x => ?_, by rw [insK_len, h.len], ?_⟩
  · rw [insK_mem, h.mem]
    constructor
    · rintro (rfl | ⟨j, h1, h2, h3⟩)
      · exact ⟨i, (hN i).2 (Or.inr rfl), hi, rfl⟩
      · exact ⟨j, (hN j).2 (Or.inl h1), h2, h3⟩
    · rintro ⟨j, h1, h2, h3⟩
      rcases (hN j).1 h1 with q | q
      · exact Or.inr ⟨j, q, h2, h3⟩
      · subst q; exact Or.inl h3.symm
  · unfold insK
    rw [tot_ins]
    have := h.tot
    omega
theorem Lk.fit {ks : List ByteArray} {M : Nat → Prop} {n : Nat} {L : List ByteArray} (h : Lk ks M n L) (hn : n ≤ 12) : Fit (lf L) := by
  have a := h.len
  have b := h.tot
  exact ⟨by simp only [lf]; omega, by simp only [lf]; omega, by simp [lf], by simp only [lf]; omega, by simp only [lf]; omega, fun k hk => by simp [lf] at hk, fun _ => rfl⟩

theorem Sl.none0 (W : World) {a : Option Addr} {c : Nat} (hm : c ≤ maxLen) (h : a = none → c = 0) : Sl W a 0 c [] :=
  ⟨rfl, Nat.zero_le _, hm, h, ⟨0, 0, fun p => absurd p (Nat.lt_irrefl 0), fun i u hi => by simp at hi⟩, fun u hu => by simp at hu⟩
theorem cutU {S T : TypeId} {z : Value} {by0 : Nat} (hu : Try.prog.underlying S = some (.slice T)) (hinf : (Try.prog.info? T).map (fun i => (i.zero, i.size, i.bytes)) = some (some z, 1, by0)) {w : World} {a : Option Addr} {n cap : Nat} {vs : List Value} (h : Sl w a n cap vs) (k : Nat) (hk : k ≤ n) :
    ∃ a', (∀ W, (Instr.slice S (.slice a n cap) none (some (.int .i64 (k : Nat))) none).run Try.prog W = .ok (.slice a' k cap) W) ∧ ∀ W, Sl W a n cap vs → Sl W a' k cap (vs.take k) := by
  have he := elem_is hu
  have hu' : Try.prog.underlying S = some (.slice (Try.prog.elem S)) := by rw [he]; exact hu
  have hm := h.max
  have hf := h.fits
  rcases Nat.eq_zero_or_pos n with rfl | np
  · obtain rfl : k = 0 := by omega
    have e : vs = [] := List.length_eq_zero_iff.1 h.len
    subst e
    cases a with
    | none =>
      obtain ⟨_, rfl, _⟩ := h.none_nil
      refine ⟨none, fun W => ?_, fun W q => q⟩
      rw [run_slice_h W S _ 0 0 hu' .i64 ((0 : Nat) : Int) (by omega) (by omega), he, size_one hinf W]
      simp [Result.andThen, sliced]
    | some x =>
      by_cases c : cap = 0
      · refine ⟨some x, fun W => ?_, fun W q => q⟩
        rw [run_slice_h W S _ 0 cap hu' .i64 ((0 : Nat) : Int) (by omega) (by omega), he, size_one hinf W]
        simp [Result.andThen, sliced, c]
      · refine ⟨some (x.add 0), fun W => ?_, fun W q => Sl.none0 W hm (fun e => by cases e)⟩
        rw [run_slice_h W S _ 0 cap hu' .i64 ((0 : Nat) : Int) (by omega) (by omega), he, size_one hinf W]
        simp [Result.andThen, sliced, c]
  · obtain ⟨b, o, rfl, _⟩ := h.at np
    exact ⟨_, fun W => cut_upto hu hinf b o n cap k _ rfl (by omega) W, fun W q => q.take hk⟩
theorem cutF {S T : TypeId} {z : Value} {by0 : Nat} (hu : Try.prog.underlying S = some (.slice T)) (hinf : (Try.prog.info? T).map (fun i => (i.zero, i.size, i.bytes)) = some (some z, 1, by0)) {w : World} {a : Option Addr} {n cap : Nat} {vs : List Value} (h : Sl w a n cap vs) (k : Nat) (hk : k ≤ n) :
    ∃ a', (∀ W, (Instr.slice S (.slice a n cap) (some (.int .i64 (k : Nat))) none none).run Try.prog W = .ok (.slice a' (n - k) (cap - k)) W) ∧ ∀ W, Sl W a n cap vs → Sl W a' (n - k) (cap - k) (vs.drop k) := by
  have he := elem_is hu
  have hu' : Try.prog.underlying S = some (.slice (Try.prog.elem S)) := by rw [he]; exact hu
  have hm := h.max
  have hf := h.fits
  rcases Nat.eq_zero_or_pos n with rfl | np
  · obtain rfl : k = 0 := by omega
    have e : vs = [] := List.length_eq_zero_iff.1 h.len
    subst e
    cases a with
    | none =>
      obtain ⟨_, rfl, _⟩ := h.none_nil
      refine ⟨none, fun W => ?_, fun W q => q⟩
      rw [run_slice_l W S _ 0 0 hu' .i64 ((0 : Nat) : Int) (by omega) (by omega), he, size_one hinf W]
      simp [Result.andThen, sliced]
    | some x =>
      by_cases c : cap = 0
      · refine ⟨some x, fun W => ?_, fun W q => q⟩
        rw [run_slice_l W S _ 0 cap hu' .i64 ((0 : Nat) : Int) (by omega) (by omega), he, size_one hinf W]
        simp [Result.andThen, sliced, c]
      · refine ⟨some (x.add 0), fun W => ?_, fun W q => Sl.none0 W hm (fun e => by cases e)⟩
        rw [run_slice_l W S _ 0 cap hu' .i64 ((0 : Nat) : Int) (by omega) (by omega), he, size_one hinf W]
        simp [Result.andThen, sliced, c]
  · obtain ⟨b, o, rfl, _⟩ := h.at np
    obtain ⟨O, h1, h2⟩ := cut_from hu hinf b o n cap k _ rfl hk hf
    exact ⟨_, h1, fun W q => q.drop hk h2⟩

/-- A slice is returned; what was there stays. -/
def RowP (w w' : World) (e : Ending) (vs : List Value) : Prop := ∃ a m c, e = .returned (.slice a m c) ∧ Sl w' a m c vs ∧ Below w.heap.size w w'
theorem NewV.row {T : TypeId} {w w' : World} {e : Ending} {vs : List Value} (h : NewV T w w' e vs) : RowP w w' e vs := by
  obtain ⟨⟨v, rfl, o⟩, b⟩ := h
  obtain ⟨a, c, rfl, s, _, _⟩ := o.sl
  exact ⟨a, _, c, rfl, s, b⟩
theorem sl_one (w : World) (x : Value) (hx : x.oneCell' = true) (t : TypeId) : Sl (w.alloc (.cells #[x] t)) (some ⟨w.heap.size, 0, none⟩) 1 1 [x] := by
  refine ⟨rfl, Nat.le_refl _, by unfold maxLen; omega, fun e => (by cases e), ⟨w.heap.size, 0, fun _ => rfl, fun i u hi => ?_⟩, fun u hu => ?_⟩
  · have := lt_of_some hi
    obtain rfl : i = 0 := by simpa using this
    simp at hi
    subst hi
    simp
  · simp at hu; subst hu; exact hx
theorem pvZ (W : World) : Pv W (.agg #[.bool false, .slice none 0 0, .slice none 0 0, .slice none 0 0]) zeroP := Pv.mk' (Sl.empty _) (Sl.empty _) (Sl.empty _) (fun k hk => by simp at hk)

/-- A box and a place for a result, while new memory is made. -/
structure Rz (w : World) (c0 c1 c2 c3 : Value) (W : World) : Prop where
  bel : Below w.heap.size w W
  box : B4 W w.heap.size c0 c1 c2 c3
  res : Bp W (w.heap.size + 1) none 0 0 none 0 0 none 0 0 zeroP
theorem Rz.next {w : World} {c0 c1 c2 c3 : Value} {W W' : World} (h : Rz w c0 c1 c2 c3 W) (b : Below W.heap.size W W') : Rz w c0 c1 c2 c3 W' := ⟨nextB h.bel b, h.box.below b, h.res.below b⟩
theorem Rz.new (w : World) (c0 c1 c2 c3 : Value) (t t' : TypeId) : Rz w c0 c1 c2 c3 ((w.alloc (.cells #[c0, c1, c2, c3] t)).alloc (.cells #[.bool false, .slice none 0 0, .slice none 0 0, .slice none 0 0] t')) := by
  refine ⟨nextB (allocB w _) (allocB _ _), (B4.new w _ _ _ _ t).below (allocB _ _), ?_⟩
  have q := Bp.mk1 (p := zeroP) (w := w.alloc (.cells #[c0, c1, c2, c3] t)) (pvZ _) t'
  rw [World.size_alloc] at q
  exact q
theorem Rz.fin {w : World} {c0 c1 c2 c3 : Value} {W : World} (h : Rz w c0 c1 c2 c3 W) {a : Option Addr} {m c : Nat} {d : Option Addr} {n f : Nat} {g : Option Addr} {o i : Nat} {q : Pg} (Q : Pv W (.agg #[.bool q.leaf, .slice a m c, .slice d n f, .slice g o i]) q) :
    B4 (st4 W (w.heap.size + 1) (.bool q.leaf) (.slice a m c) (.slice d n f) (.slice g o i)) (w.heap.size + 1) (.bool q.leaf) (.slice a m c) (.slice d n f) (.slice g o i) ∧ Pv (st4 W (w.heap.size + 1) (.bool q.leaf) (.slice a m c) (.slice d n f) (.slice g o i)) (.agg #[.bool q.leaf, .slice a m c, .slice d n f, .slice g o i]) q ∧ Below w.heap.size w (st4 W (w.heap.size + 1) (.bool q.leaf) (.slice a m c) (.slice d n f) (.slice g o i)) ∧ B4 (st4 W (w.heap.size + 1) (.bool q.leaf) (.slice a m c) (.slice d n f) (.slice g o i)) w.heap.size c0 c1 c2 c3 := by
  obtain ⟨k1, k2⟩ := h.res.put Q
  exact ⟨k1.b4, k1.pv, h.bel.grown k2 h.bel.size (fun k hk => by cases hk; omega), h.box.grown k2 (fun e => by injection e with e; omega)⟩

/-- Two pages and a text are returned; what was there stays. -/
def NewT (w w' : World) (e : Ending) (p : Pg) (k : ByteArray) (q : Pg) : Prop := ∃ v u, e = .returned (.tuple #[v, .string k, u]) ∧ Pv w' v p ∧ Pv w' u q ∧ Below w.heap.size w w'
structure R2z (w : World) (c0 c1 c2 c3 : Value) (W : World) : Prop where
  bel : Below w.heap.size w W
  box : B4 W w.heap.size c0 c1 c2 c3
  ra : Bp W (w.heap.size + 1) none 0 0 none 0 0 none 0 0 zeroP
  rb : Bp W (w.heap.size + 1 + 1) none 0 0 none 0 0 none 0 0 zeroP
theorem R2z.next {w : World} {c0 c1 c2 c3 : Value} {W W' : World} (h : R2z w c0 c1 c2 c3 W) (b : Below W.heap.size W W') : R2z w c0 c1 c2 c3 W' := ⟨nextB h.bel b, h.box.below b, h.ra.below b, h.rb.below b⟩
theorem R2z.new (w : World) (c0 c1 c2 c3 : Value) (t t' t2 : TypeId) : R2z w c0 c1 c2 c3 (((w.alloc (.cells #[c0, c1, c2, c3] t)).alloc (.cells #[.bool false, .slice none 0 0, .slice none 0 0, .slice none 0 0] t')).alloc (.cells #[.bool false, .slice none 0 0, .slice none 0 0, .slice none 0 0] t2)) := by
  have r := Rz.new w c0 c1 c2 c3 t t'
  refine ⟨nextB r.bel (allocB _ _), r.box.below (allocB _ _), r.res.below (allocB _ _), ?_⟩
  have q := Bp.mk1 (p := zeroP) (w := (w.alloc (.cells #[c0, c1, c2, c3] t)).alloc (.cells #[.bool false, .slice none 0 0, .slice none 0 0, .slice none 0 0] t')) (pvZ _) t2
  rw [World.size_alloc, World.size_alloc] at q
  exact q
/-- Both stored, the first first. -/
structure F2 (w : World) (c0 c1 c2 c3 : Value) (X : World) (x0 x1 x2 x3 y0 y1 y2 y3 : Value) (q1 q2 : Pg) : Prop where
  ra : B4 X (w.heap.size + 1) x0 x1 x2 x3
  rb : B4 X (w.heap.size + 1 + 1) y0 y1 y2 y3
  p1 : Pv X (.agg #[x0, x1, x2, x3]) q1
  p2 : Pv X (.agg #[y0, y1, y2, y3]) q2
  bel : Below w.heap.size w X
  box : B4 X w.heap.size c0 c1 c2 c3
theorem R2z.fin {w : World} {c0 c1 c2 c3 : Value} {W : World} (h : R2z w c0 c1 c2 c3 W) {a : Option Addr} {m c : Nat} {d : Option Addr} {n f : Nat} {g : Option Addr} {o i : Nat} {q : Pg} (Q : Pv W (.agg #[.bool q.leaf, .slice a m c, .slice d n f, .slice g o i]) q)
    {a' : Option Addr} {m' c' : Nat} {d' : Option Addr} {n' f' : Nat} {g' : Option Addr} {o' i' : Nat} {q' : Pg} (Q' : Pv W (.agg #[.bool q'.leaf, .slice a' m' c', .slice d' n' f', .slice g' o' i']) q') :
    F2 w c0 c1 c2 c3 (st4 (st4 W (w.heap.size + 1) (.bool q.leaf) (.slice a m c) (.slice d n f) (.slice g o i)) (w.heap.size + 1 + 1) (.bool q'.leaf) (.slice a' m' c') (.slice d' n' f') (.slice g' o' i')) (.bool q.leaf) (.slice a m c) (.slice d n f) (.slice g o i) (.bool q'.leaf) (.slice a' m' c') (.slice d' n' f') (.slice g' o' i') q q' := by
  obtain ⟨k1, k2⟩ := h.ra.put Q
  have r := h.rb.far h.ra k2 (by omega)
  obtain ⟨j1, j2⟩ := r.put (Q'.out k2 (h.ra.off Q'))
  have k3 := k1.far r j2 (by omega)
  have b1 := h.bel.grown k2 h.bel.size (fun k hk => by cases hk; omega)
  have b2 := b1.grown j2 b1.size (fun k hk => by cases hk; omega)
  exact ⟨k3.b4, j1.b4, k3.pv, j1.pv, b2, (h.box.grown k2 (fun e => by injection e with e; omega)).grown j2 (fun e => by injection e with e; omega)⟩
theorem R2z.nif {w : World} {c0 c1 c2 c3 : Value} {W : World} (h : R2z w c0 c1 c2 c3 W) {a : Option Addr} {m c : Nat} {d : Option Addr} {n f : Nat} {g : Option Addr} {o i : Nat} {q : Pg} (Q : Pv W (.agg #[.bool q.leaf, .slice a m c, .slice d n f, .slice g o i]) q)
    {a' : Option Addr} {m' c' : Nat} {d' : Option Addr} {n' f' : Nat} {g' : Option Addr} {o' i' : Nat} {q' : Pg} (Q' : Pv W (.agg #[.bool q'.leaf, .slice a' m' c', .slice d' n' f', .slice g' o' i']) q') :
    F2 w c0 c1 c2 c3 (st4 (st4 W (w.heap.size + 1 + 1) (.bool q'.leaf) (.slice a' m' c') (.slice d' n' f') (.slice g' o' i')) (w.heap.size + 1) (.bool q.leaf) (.slice a m c) (.slice d n f) (.slice g o i)) (.bool q.leaf) (.slice a m c) (.slice d n f) (.slice g o i) (.bool q'.leaf) (.slice a' m' c') (.slice d' n' f') (.slice g' o' i') q q' := by
  obtain ⟨k1, k2⟩ := h.rb.put Q'
  have r := h.ra.far h.rb k2 (by omega)
  obtain ⟨j1, j2⟩ := r.put (Q.out k2 (h.rb.off Q))
  have k3 := k1.far r j2 (by omega)
  have b1 := h.bel.grown k2 h.bel.size (fun k hk => by cases hk; omega)
  have b2 := b1.grown j2 b1.size (fun k hk => by cases hk; omega)
  exact ⟨j1.b4, k3.b4, j1.pv, k3.pv, b2, (h.box.grown k2 (fun e => by injection e with e; omega)).grown j2 (fun e => by injection e with e; omega)⟩
/-- A clone of texts, of numbers. -/
theorem cloneS_row (a : Option Addr) (n cap : Nat) (vs : List Value) (w : World) (h : Sl w a n cap vs) (hn : n ≤ 100000) : Calls Try.prog 63 #[.slice a n cap] w fun e w' => RowP w w' e vs := Calls.mono (cloneS_any a n cap vs w h hn) fun e w' q => q.row
theorem cloneU_row (a : Option Addr) (n cap : Nat) (vs : List Value) (w : World) (h : Sl w a n cap vs) (hn : n ≤ 100000) : Calls Try.prog 82 #[.slice a n cap] w fun e w' => RowP w w' e vs := Calls.mono (cloneU_any a n cap vs w h hn) fun e w' q => q.row

end Go.Proofs.Ythdjghmipepppaa

