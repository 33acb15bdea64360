/- Plain mathematics of pages, on: a leaf's halves are good, and within a page's bytes if that can be. -/
import Derived.Test.YtfedcghkohfhlaaPd
import Derived.Test.YtfedcghkohfhlaaSe
namespace Go.Proofs.Ytfedcghkohfhlaa
open Go.RowKit
set_option linter.unusedVariables false
set_option linter.unusedSimpArgs false

theorem leaf_keys {p : Pg} (g : goodB p = true) : Rise p.keys ∧ ∀ i, i < p.keys.length → 1 ≤ (kAt p.keys i).size ∧ (kAt p.keys i).size ≤ 40 :=
  ⟨keysB_rise (goodB_parts g).1, fun i hi => kOk_size (keysB_at (goodB_parts g).1 hi)⟩
theorem good_leaf {ks vs : List ByteArray} (r : Rise ks) (s : ∀ i, i < ks.length → 1 ≤ (kAt ks i).size ∧ (kAt ks i).size ≤ 40) (v : ∀ i, i < vs.length → (kAt vs i).size ≤ 400) (l : vs.length = ks.length) : goodB ⟨true, ks, vs, []⟩ = true := by
  unfold goodB
  simp only
  rw [rise_keysB r s, valsB_true v, kidsB_nil]
  simp [shapeB, l]
theorem good_lfA {p : Pg} (g : goodB p = true) (l : p.leaf = true) : goodB (lfA p) = true := by
  obtain ⟨r, s⟩ := leaf_keys g
  have e := (goodB_leaf g l).1
  unfold lfA
  generalize mid (szs p.keys p.vals) = m
  refine good_leaf (r.take m) (fun i hi => ?_) (fun i hi => ?_) (by simp [e])
  · simp at hi
    rw [kAt_take (by omega)]
    exact s i (by omega)
  · simp at hi
    rw [kAt_take (by omega)]
    exact valsB_at (goodB_parts g).2.1 (by omega)
theorem good_lfB {p : Pg} (g : goodB p = true) (l : p.leaf = true) : goodB (lfB p) = true := by
  obtain ⟨r, s⟩ := leaf_keys g
  have e := (goodB_leaf g l).1
  unfold lfB
  generalize mid (szs p.keys p.vals) = m
  refine good_leaf (r.drop m) (fun i hi => ?_) (fun i hi => ?_) (by simp [e])
  · simp at hi
    rw [kAt_drop]
    exact s _ (by omega)
  · simp at hi
    rw [kAt_drop]
    exact valsB_at (goodB_parts g).2.1 (by omega)
theorem small_lfA {p : Pg} (s : Small p) : Small (lfA p) := by
  have a := s.keys
  have b := s.vals
  have d := s.tot
  unfold lfA
  generalize mid (szs p.keys p.vals) = m
  have := tot_take_le p.keys m
  have := tot_take_le p.vals m
  exact ⟨by simp; omega, by simp; omega, by simp, by simp only; omega⟩
theorem small_lfB {p : Pg} (s : Small p) : Small (lfB p) := by
  have a := s.keys
  have b := s.vals
  have d := s.tot
  unfold lfB
  generalize mid (szs p.keys p.vals) = m
  have := tot_drop_le p.keys m
  have := tot_drop_le p.vals m
  exact ⟨by simp; omega, by simp; omega, by simp, by simp only; omega⟩
theorem hd2 {n : Nat} (h : n < 128) : hd n = 2 := by unfold hd encH; rw [enc_lt h]; rfl
theorem encS_short {s : ByteArray} (h : s.size < 128) : (encS s).length = s.size + 1 := by rw [encS_len, enc_lt h]; simp; omega
theorem encS_mid {s : ByteArray} (h : s.size ≤ 400) : (encS s).length ≤ s.size + 2 := by
  rw [encS_len]
  have := enc_len 1 s.size (by omega)
  omega
/-- The halves of sizes that are not too great, none of them great. -/
theorem mid_fits {l : List Nat} (n2 : 2 ≤ l.length) (n60 : l.length ≤ 60) (each : ∀ i, i < l.length → l.getD i 0 ≤ 443) (all : sumL l ≤ 1338) : sumL (l.take (mid l)) + 2 ≤ 900 ∧ sumL (l.drop (mid l)) + 2 ≤ 900 := by
  obtain ⟨m1, m2⟩ := mid_bd n2
  have sp := sumL_split l (mid l)
  have c1 : cF l (mid l) = false := dn_end l _
  have first : sumL (l.take (mid l)) + 2 ≤ 900 := by
    rcases Nat.lt_or_ge 1 (mid l) with q | q
    · unfold cF crB at c1
      rw [decide_eq_true q, Bool.true_and, hd2 (by omega)] at c1
      have := of_decide_eq_false c1
      omega
    · have e : mid l = 0 + 1 := by omega
      rw [e, sumL_snoc (by omega)]
      have := each 0 (by omega)
      simp [sumL] at this ⊢
      omega
  refine ⟨first, ?_⟩
  rcases dn_more l (top l) with q | q
  · have q' : mid l = top l := q
    have c2 : cS l (top l) = false := up_end l _ _ (by omega)
    rw [← q'] at c2
    rcases Nat.lt_or_ge 1 (l.length - mid l) with r | r
    · unfold cS crB at c2
      rw [decide_eq_true r, Bool.true_and, hd2 (by omega)] at c2
      have := of_decide_eq_false c2
      omega
    · have e := sumL_snoc (l := l) (k := mid l) (by omega)
      have f := sumL_split l (mid l + 1)
      have z : l.drop (mid l + 1) = [] := List.drop_of_length_le (by omega)
      rw [z] at f
      simp only [sumL] at f
      have := each (mid l) m2
      omega
  · have q' : cF l (mid l + 1) = true := q
    unfold cF crB at q'
    rw [hd2 (by omega)] at q'
    simp only [Bool.and_eq_true, decide_eq_true_eq] at q'
    have e := sumL_snoc (l := l) (k := mid l) m2
    have := each (mid l) m2
    omega
/-- A good leaf's halves. -/
theorem halves_fit {p : Pg} (g : goodB p = true) (l : p.leaf = true) (s : Small p) (n2 : 2 ≤ p.keys.length) (h : (encP p).length ≤ 1340) : (encP (lfA p)).length ≤ 900 ∧ (encP (lfB p)).length ≤ 900 := by
  obtain ⟨lf, ks, vs, is⟩ := p
  simp only at l n2
  subst l
  have e : vs.length = ks.length := (goodB_leaf g rfl).1
  have sk : ks.length ≤ 60 := s.keys
  have sl := szs_len ks vs e
  rw [encP_leaf_len, hd2 (by omega)] at h
  have each : ∀ i, i < (szs ks vs).length → (szs ks vs).getD i 0 ≤ 443 := fun i hi => by
    rw [sl] at hi
    rw [szs_at ks vs i e hi, List.length_append]
    have a : (kAt ks i).size ≤ 40 := ((leaf_keys g).2 i hi).2
    have b : (kAt vs i).size ≤ 400 := valsB_at (goodB_parts g).2.1 (by simp only; omega)
    have c := encS_short (s := kAt ks i) (by omega)
    have d := encS_mid b
    omega
  have m := mid_bd (l := szs ks vs) (by omega)
  have f := mid_fits (l := szs ks vs) (by omega) (by omega) each (by omega)
  unfold lfA lfB
  simp only
  rw [encP_leaf_len, encP_leaf_len, szs_take, szs_drop, hd2 (by simp; omega), hd2 (by simp; omega)]
  omega

end Go.Proofs.Ytfedcghkohfhlaa
