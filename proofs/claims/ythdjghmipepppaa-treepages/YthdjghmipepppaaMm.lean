/- Plain mathematics of trees, on: a leaf with one more key; halves; a key put in. Plain mathematics of trees, on: a key put into a tree. Plain mathematics of trees, on: a key dropped; the root. Plain mathematics of trees, on: the root; what is found; all items, all pages. Plain mathematics of trees, on: where keys are only put in, all leaves are as deep, and no page is too great. Plain mathematics of trees, on: a list changed item by item; ranges. Plain mathematics of trees, on: changes one behind the other: how deep, how many pages, how many items. -/
import Derived.Test.YthdjghmipepppaaMk
namespace Go.Proofs.Ythdjghmipepppaa
open Go.RowKit
set_option linter.unusedVariables false
set_option linter.unusedSimpArgs false

theorem szs_app : ∀ (a b c d : List ByteArray), a.length = b.length → szs (a ++ c) (b ++ d) = szs a b ++ szs c d
  | [], [], c, d, _ => by simp [szs]
  | k :: a, v :: b, c, d, h => by simp [szs, szs_app a b c d (by simpa using h)]
  | [], _ :: _, _, _, h => by simp at h
  | _ :: _, [], _, _, h => by simp at h
theorem sumL_le {l : List Nat} {m : Nat} (h : ∀ x ∈ l, x ≤ m) : sumL l ≤ m * l.length := by
  induction l with
  | nil => simp [sumL]
  | cons a l ih =>
    have := ih (fun x hx => h x (by simp [hx]))
    have := h a (by simp)
    simp only [sumL, List.length_cons, Nat.mul_add]
    omega
theorem item_443 {k v : ByteArray} (hk : k.size ≤ 40) (hv : v.size ≤ 400) : (encS k ++ encS v).length ≤ 443 := by
  rw [List.length_append]
  have c := encS_short (s := k) (by omega)
  have d := encS_mid hv
  omega
theorem mem_putP {p : Pg} (e : p.vals.length = p.keys.length) {k v : ByteArray} : (∀ x ∈ (putP p k v).keys, x = k ∨ x ∈ p.keys) ∧ (∀ x ∈ (putP p k v).vals, x = v ∨ x ∈ p.vals) := by
  cases f : fnd p.keys k with
  | true =>
    rw [putP_yes f]
    refine ⟨fun x hx => Or.inr hx, fun x hx => ?_⟩
    simp only [setAt] at hx
    rcases List.mem_append.1 hx with q | q
    · exact Or.inr (List.mem_of_mem_take q)
    · rcases List.mem_cons.1 q with q | q
      · exact Or.inl q
      · exact Or.inr (List.mem_of_mem_drop q)
  | false =>
    rw [putP_no f]
    have g : ∀ (l : List ByteArray) (i : Nat) (y x : ByteArray), x ∈ insAt l i y → x = y ∨ x ∈ l := fun l i y x hx => by
      unfold insAt at hx
      rcases List.mem_append.1 hx with q | q
      · exact Or.inr (List.mem_of_mem_take q)
      · rcases List.mem_cons.1 q with q | q
        · exact Or.inl q
        · exact Or.inr (List.mem_of_mem_drop q)
    exact ⟨fun x hx => g _ _ _ x hx, fun x hx => g _ _ _ x hx⟩
theorem good_put {p : Pg} (g : goodB p = true) (l : p.leaf = true) {k v : ByteArray} (hk : 1 ≤ k.size ∧ k.size ≤ 40) (hv : v.size ≤ 400) : goodB (putP p k v) = true ∧ (putP p k v).leaf = true ∧ (putP p k v).keys ≠ [] := by
  have e := (goodB_leaf g l).1
  obtain ⟨r, z⟩ := leaf_keys g
  obtain ⟨m1, m2⟩ := mem_putP e (k := k) (v := v)
  have pl := pos_le p.keys k
  have vz : ∀ i, i < (putP p k v).vals.length → (kAt (putP p k v).vals i).size ≤ 400 := fun i hi => by
    rw [kAt_get hi]
    rcases m2 _ (List.getElem_mem hi) with q | q
    · rw [q]; exact hv
    · obtain ⟨j, hj, e⟩ := List.mem_iff_getElem.1 q
      rw [← e]
      have := valsB_at (goodB_parts g).2.1 hj
      rwa [kAt_get hj] at this
  have kz : Kz (putP p k v).keys := fun i hi => by
    rw [kAt_get hi]
    rcases m1 _ (List.getElem_mem hi) with q | q
    · rw [q]; exact hk
    · obtain ⟨j, hj, e⟩ := List.mem_iff_getElem.1 q
      rw [← e]
      have := z j hj
      rwa [kAt_get hj] at this
  cases f : fnd p.keys k with
  | true =>
    have q := fnd_true f
    rw [putP_yes f] at vz kz ⊢
    refine ⟨good_leaf r kz vz ?_, rfl, fun h => ?_⟩
    · rw [setAt_len (by omega)]; exact e
    · simp only at h; rw [h] at q; simp at q
  | false =>
    rw [putP_no f] at vz kz ⊢
    refine ⟨good_leaf (insK_rise r f) kz vz ?_, rfl, fun h => ?_⟩
    · rw [insAt_len (by omega), insAt_len pl, e]
    · have := insAt_len (x := k) pl
      simp only at h
      rw [h] at this
      simp at this
theorem put_bytes {p : Pg} (g : goodB p = true) (l : p.leaf = true) (h : (encP p).length ≤ 900) (n : p.keys.length ≤ 126) {k v : ByteArray} (hk : k.size ≤ 40) (hv : v.size ≤ 400) : (encP (putP p k v)).length ≤ 1350 := by
  obtain ⟨lf, ks, vs, is⟩ := p
  simp only at l n
  subst l
  have e : vs.length = ks.length := (goodB_leaf g rfl).1
  have pl := pos_le ks k
  rw [encP_leaf_len, hd2 (by omega)] at h
  have it := item_443 hk hv
  have sz : ∀ a b : List ByteArray, sumL (szs (k :: a) (v :: b)) = (encS k ++ encS v).length + sumL (szs a b) := fun a b => by simp only [szs, sumL]
  have sp := sumL_split (szs ks vs) (posS ks k)
  rw [← szs_take, ← szs_drop] at sp
  cases f : fnd ks k with
  | true =>
    have q := fnd_true f
    rw [putP_yes (p := ⟨true, ks, vs, is⟩) f]
    simp only
    rw [encP_leaf_len, hd2 (by omega)]
    have ek : ks = ks.take (posS ks k) ++ k :: ks.drop (posS ks k + 1) := by
      conv => lhs; rw [← List.take_append_drop (posS ks k) ks]
      rw [List.drop_eq_getElem_cons q.1, ← kAt_get q.1, q.2]
    have s2 := sumL_split (szs (ks.drop (posS ks k)) (vs.drop (posS ks k))) 1
    rw [← szs_drop, List.drop_drop, List.drop_drop] at s2
    generalize posS ks k = P at *
    have z : szs ks (setAt vs P v) = szs (ks.take P ++ k :: ks.drop (P + 1)) (setAt vs P v) := by rw [← ek]
    rw [z]
    unfold setAt
    rw [szs_app _ _ _ _ (by simp; omega), sumL_app, sz]
    omega
  | false =>
    rw [putP_no (p := ⟨true, ks, vs, is⟩) f]
    simp only
    rw [encP_leaf_len, hd2 (by rw [insAt_len pl]; omega)]
    unfold insAt
    rw [szs_app _ _ _ _ (by simp; omega), sumL_app, sz]
    omega

theorem halv_ok {sh : List Pg} {r : Nat} {p : Pg} {L : List It} {f : Nat} (h : Tp (Tr sh r) p L f) (hL : L.length ≤ 127) (hb : p.leaf = true → (encP p).length ≤ 1350) (hs : sh.length < 2000000) : HR sh r p.leaf L f (halv sh p) := by
  by_cases c : (encP p).length ≤ 900
  · unfold halv
    rw [if_pos c]
    exact ⟨⟨[p], rfl, by simp⟩, fun _ => ⟨p, pgAt_new sh p [], h.mono (fun _ _ _ q => q.app _), fun _ => c⟩, fun q => absurd rfl q⟩
  · unfold halv
    rw [if_neg c]
    obtain ⟨g, ne, ⟨l, rfl, rfl⟩ | ⟨l, S, h1, rfl, rfl, h4⟩⟩ := h
    · have e := (goodB_leaf g l).1
      obtain ⟨rs, z⟩ := leaf_keys g
      have bb := hb l
      have n127 : p.keys.length ≤ 127 := by have := zipK_len e; omega
      have vz : ∀ i, i < p.vals.length → (kAt p.vals i).size ≤ 400 := fun i hi => valsB_at (goodB_parts g).2.1 hi
      have each := szs_443 e z vz
      have sl := szs_len p.keys p.vals e
      have len : (encP p).length = 2 + sumL (szs p.keys p.vals) := by
        rw [encP_leaf l, List.length_append, szs_sum]
        have := hd2 (n := p.keys.length) (by omega)
        unfold hd at this
        rw [this]
      have n2 : 2 ≤ p.keys.length := by
        rcases Nat.lt_or_ge p.keys.length 2 with q | q
        · have := sumL_le (l := szs p.keys p.vals) (m := 443) (fun x hx => by
            obtain ⟨i, hi, rfl⟩ := List.mem_iff_getElem.1 hx
            have := each i hi
            simpa [List.getD, hi] using this)
          rw [sl] at this
          have : 443 * p.keys.length ≤ 443 * 1 := Nat.mul_le_mul_left _ (by omega)
          omega
        · exact q
      have ft := mid_fits2 (l := szs p.keys p.vals) (by omega) (by omega) each (by omega)
      have mb := mid_bd (l := szs p.keys p.vals) (by omega)
      rw [sl] at mb
      have eA : spA p = lfA p := by unfold spA; rw [if_pos ⟨l, n2⟩]
      have eB : spB p = lfB p := by unfold spB; rw [if_pos ⟨l, n2⟩]
      have eK : spK p = kAt p.keys (mid (szs p.keys p.vals)) := by unfold spK; rw [if_pos ⟨l, n2⟩]
      have gA := good_lfA g l
      have gB := good_lfB g l
      rw [eA, eB, eK]
      unfold lfA lfB at *
      generalize hm : mid (szs p.keys p.vals) = m at *
      refine ⟨⟨_, rfl, by simp⟩, fun q => by simp at q, fun _ => ⟨(zipK p.keys p.vals).take m, (zipK p.keys p.vals).drop m, 0, 0, (List.take_append_drop m _).symm, ?_, ?_, ?_, ?_, z m mb.2, fun _ => rfl, fun q => by rw [l] at q; cases q⟩⟩
      · refine ⟨_, pgAt_new sh _ [_], ⟨gA, ?_, Or.inl ⟨rfl, (zipK_take _ _ _).symm, rfl⟩⟩, fun _ => ?_⟩
        · intro q
          have : (p.keys.take m).length = 0 := by simp only at q; rw [q]; rfl
          simp only [List.length_take] at this
          omega
        · rw [encP_leaf_len, szs_take, hd2 (by simp; omega)]
          omega
      · refine ⟨_, pgAt_new2 sh _ _, ⟨gB, ?_, Or.inl ⟨rfl, (zipK_drop _ _ _).symm, rfl⟩⟩, fun _ => ?_⟩
        · intro q
          have : (p.keys.drop m).length = 0 := by simp only at q; rw [q]; rfl
          simp only [List.length_drop] at this
          omega
        · rw [encP_leaf_len, szs_drop, hd2 (by simp; omega)]
          omega
      · intro x hx
        rw [← zipK_take] at hx
        obtain ⟨i, hi, rfl⟩ := zipK_mem (by simp [e]) hx
        simp only [List.length_take] at hi
        rw [kAt_take (by omega)]
        exact rs i m (by omega) mb.2
      · intro x hx
        rw [← zipK_drop] at hx
        obtain ⟨i, hi, rfl⟩ := zipK_mem (by simp [e]) hx
        simp only [List.length_drop] at hi
        rw [kAt_drop]
        rcases Nat.eq_zero_or_pos i with q | q
        · subst q; exact leS_refl _
        · exact lt_le (rs m (m + i) (by omega) (by omega))
    · obtain ⟨rs, z⟩ := leaf_keys g
      have hl := h4.len
      have n21 := many_keys g l (fun k hk => by
        rw [h1] at hk
        obtain ⟨s, hs', rfl⟩ := List.mem_map.1 hk
        obtain ⟨j, hj, rfl⟩ := List.mem_iff_getElem.1 hs'
        have := (h4.ok j _ (List.getElem?_eq_getElem hj)).1.num
        omega) (by omega)
      obtain ⟨m, hm⟩ : ∃ m, m = p.keys.length / 2 := ⟨_, rfl⟩
      have eA : spA p = brA p := by unfold spA; rw [if_neg (by rw [l]; simp), if_pos ⟨l, by omega⟩]
      have eB : spB p = brB p := by unfold spB; rw [if_neg (by rw [l]; simp), if_pos ⟨l, by omega⟩]
      have eK : spK p = kAt p.keys m := by unfold spK; rw [if_neg (by rw [l]; simp), if_pos ⟨l, by omega⟩, hm]
      rw [eA, eB, eK]
      unfold brA brB
      rw [← hm, h1, ← List.map_take, ← List.map_drop]
      have tk := h4.take (m := m) (by omega)
      have dp := h4.drop (m := m) (by omega)
      have kzA : Kz (p.keys.take m) := fun i hi => by
        simp only [List.length_take] at hi
        rw [kAt_take (by omega)]; exact z i (by omega)
      have kzB : Kz (p.keys.drop (m + 1)) := fun i hi => by
        simp only [List.length_drop] at hi
        rw [kAt_drop]; exact z _ (by omega)
      have sp : fsum (S.take (m + 1)) + fsum (S.drop (m + 1)) = fsum S := by rw [← fsum_app, List.take_append_drop]
      refine ⟨⟨_, rfl, by simp⟩, fun q => by simp at q, fun _ => ⟨lall (S.take (m + 1)), lall (S.drop (m + 1)), fsum (S.take (m + 1)) + ((S.take (m + 1)).length - 11), fsum (S.drop (m + 1)) + ((S.drop (m + 1)).length - 11), ?_, ?_, ?_, ?_, ?_, z m (by omega), (fun q => by rw [l] at q; cases q), fun _ => ?_⟩⟩
      · rw [← lall_app, List.take_append_drop]
      · refine ⟨_, pgAt_new sh _ [_], ⟨good_bt tk kzA, ?_, Or.inr ⟨rfl, _, rfl, rfl, rfl, tk.mono (fun _ _ _ q => q.app _)⟩⟩, fun q => by simp at q⟩
        intro q
        have : (p.keys.take m).length = 0 := by simp only at q; rw [q]; rfl
        simp only [List.length_take] at this
        omega
      · refine ⟨_, pgAt_new2 sh _ _, ⟨good_bt dp kzB, ?_, Or.inr ⟨rfl, _, rfl, rfl, rfl, dp.mono (fun _ _ _ q => q.app _)⟩⟩, fun q => by simp at q⟩
        intro q
        have : (p.keys.drop (m + 1)).length = 0 := by simp only at q; rw [q]; rfl
        simp only [List.length_drop] at this
        omega
      · intro x hx
        obtain ⟨j, s, hj, hx⟩ := lall_mem hx
        have jl := lt_of_some hj
        simp only [List.length_take] at jl
        rw [List.getElem?_take, if_pos (by omega)] at hj
        have a := h4.hi j s hj (by omega) x hx
        rcases Nat.lt_or_ge j m with q | q
        · exact ltS_trans a (rs j m q (by omega))
        · obtain rfl : j = m := by omega
          exact a
      · intro x hx
        obtain ⟨j, s, hj, hx⟩ := lall_mem hx
        rw [List.getElem?_drop] at hj
        have jl := lt_of_some hj
        have a := h4.lo _ s hj (by omega) x hx
        rcases Nat.eq_zero_or_pos j with q | q
        · subst q; exact a
        · exact leS_trans (lt_le (rs m (m + 1 + j - 1) (by omega) (by omega))) a
      · simp only [List.length_take, List.length_drop]
        omega

end Go.Proofs.Ythdjghmipepppaa

namespace Go.Proofs.Ythdjghmipepppaa
open Go.RowKit
set_option linter.unusedVariables false
set_option linter.unusedSimpArgs false

/-- A key put into the tree of a number: the shelf, the first's number, the key between, the second's number (0: there is none). -/
def putF : Nat → List Pg → Nat → ByteArray → ByteArray → List Pg × Nat × ByteArray × Nat
  | 0, sh, _, _, _ => (sh, 0, ByteArray.empty, 0)
  | r + 1, sh, n, k, v => match pgAt sh n with
    | none => (sh, 0, ByteArray.empty, 0)
    | some p => if p.leaf = true then halv sh (putP p k v)
      else if (putF r sh (p.kids.getD (plS p.keys k) 0) k v).2.2.2 = 0
        then halv (putF r sh (p.kids.getD (plS p.keys k) 0) k v).1 ⟨false, p.keys, [], setAt p.kids (plS p.keys k) (putF r sh (p.kids.getD (plS p.keys k) 0) k v).2.1⟩
        else halv (putF r sh (p.kids.getD (plS p.keys k) 0) k v).1 ⟨false, insAt p.keys (plS p.keys k) (putF r sh (p.kids.getD (plS p.keys k) 0) k v).2.2.1, [], ins2 p.kids (plS p.keys k) (putF r sh (p.kids.getD (plS p.keys k) 0) k v).2.1 (putF r sh (p.kids.getD (plS p.keys k) 0) k v).2.2.2⟩
structure PR (sh : List Pg) (r n : Nat) (L : List It) (f : Nat) (k v : ByteArray) (q : List Pg × Nat × ByteArray × Nat) : Prop where
  grow : ∃ t, q.1 = sh ++ t ∧ t.length ≤ 2 * r
  one : q.2.2.2 = 0 → ∃ f', Tr q.1 r q.2.1 (putL L k v) f' ∧ f' ≤ f + 1
  two : q.2.2.2 ≠ 0 → ∃ L1 L2 f1 f2, putL L k v = L1 ++ L2 ∧ Tr q.1 r q.2.1 L1 f1 ∧ Tr q.1 r q.2.2.2 L2 f2 ∧ (∀ x ∈ L1, ltS x.1 q.2.2.1 = true) ∧ (∀ x ∈ L2, leS q.2.2.1 x.1 = true) ∧ (1 ≤ q.2.2.1.size ∧ q.2.2.1.size ≤ 40) ∧ f1 + f2 ≤ f ∧ (∀ p, pgAt sh n = some p → p.leaf = false → f1 + f2 + 10 ≤ f)
theorem getD_map {S : List Seg} {i : Nat} {s : Seg} (h : S[i]? = some s) : (S.map (·.n)).getD i 0 = s.n := by simp [List.getD, h]
theorem put_ok (k v : ByteArray) (hk : 1 ≤ k.size ∧ k.size ≤ 40) (hv : v.size ≤ 400) : ∀ (r : Nat) (sh : List Pg) (n : Nat) (L : List It) (f : Nat), Tr sh r n L f → L.length ≤ 126 → sh.length + 2 * r < 2000000 → PR sh r n L f k v (putF r sh n k v)
  | 0, _, _, _, _, h, _, _ => False.elim h
  | r + 1, sh, n, L, f, h, hL, hs => by
    have lenP := putL_len L k v
    obtain ⟨p, h1, hp, h3⟩ := h
    obtain ⟨g, ne, ⟨l, rfl, rfl⟩ | ⟨l, S, e1, rfl, rfl, bt⟩⟩ := hp
    · have e := (goodB_leaf g l).1
      obtain ⟨g', l', ne'⟩ := good_put g l hk hv
      have tp : Tp (Tr sh r) (putP p k v) (putL (zipK p.keys p.vals) k v) 0 := ⟨g', ne', Or.inl ⟨l', (zip_put e (leaf_keys g).1 k v).symm, rfl⟩⟩
      have n126 : p.keys.length ≤ 126 := by have := zipK_len e; omega
      have H := halv_ok tp (by omega) (fun _ => put_bytes g l (h3 l) n126 hk.2 hv) (by omega)
      have q : putF (r + 1) sh n k v = halv sh (putP p k v) := by simp only [putF, h1, l, if_true]
      rw [q]
      obtain ⟨t, et, tl⟩ := H.sh
      refine ⟨⟨t, et, by omega⟩, fun q => ⟨0, H.one q, by omega⟩, fun q => ?_⟩
      obtain ⟨L1, L2, f1, f2, a1, a2, a3, a4, a5, a6, a7, _⟩ := H.two q
      have := a7 l'
      exact ⟨L1, L2, f1, f2, a1, a2, a3, a4, a5, a6, by omega, fun p' hp' hl' => by rw [h1] at hp'; cases hp'; rw [l] at hl'; cases hl'⟩
    · obtain ⟨rs, z⟩ := leaf_keys g
      have hl := bt.len
      have pl := plS_le p.keys k
      obtain ⟨i, hi⟩ : ∃ i, i = plS p.keys k := ⟨_, rfl⟩
      obtain ⟨s, hsi⟩ : ∃ s, S[i]? = some s := ⟨_, List.getElem?_eq_getElem (by omega)⟩
      have gd : p.kids.getD i 0 = s.n := by rw [e1]; exact getD_map hsi
      have la := lall_at hsi
      have fa := fsum_at hsi
      have sL : s.L.length ≤ 126 := by rw [la] at hL; simp only [List.length_append] at hL; omega
      have ih := put_ok k v hk hv r sh s.n s.L s.f (bt.ok i s hsi).1 sL (by omega)
      have ah := bt.ahead (k := k)
      have bh := bt.behind rs (k := k)
      rw [← hi] at ah bh
      have pm : putL (lall S) k v = lall (S.take i) ++ putL s.L k v ++ lall (S.drop (i + 1)) := by rw [la]; exact putL_mid v ah bh
      have lo : 0 < i → ∀ x ∈ putL s.L k v, leS (kAt p.keys (i - 1)) x.1 = true := fun h0 x hx => by
        rcases putL_mem hx with q | q
        · rw [q]; show leS _ k = true; exact pl_le (by omega)
        · exact bt.lo i s hsi h0 x q
      have up : i < p.keys.length → ∀ x ∈ putL s.L k v, ltS x.1 (kAt p.keys i) = true := fun h0 x hx => by
        rcases putL_mem hx with q | q
        · rw [q]; show ltS k _ = true; exact pl_gt rs (by omega) h0
        · exact bt.hi i s hsi h0 x q
      obtain ⟨t, et, tl⟩ := ih.grow
      by_cases c : (putF r sh s.n k v).2.2.2 = 0
      · obtain ⟨f', tr, ff⟩ := ih.one c
        have q : putF (r + 1) sh n k v = halv (putF r sh s.n k v).1 ⟨false, p.keys, [], setAt p.kids i (putF r sh s.n k v).2.1⟩ := by
          simp only [putF, h1, l, ← hi, gd]
          rw [if_neg (by simp), if_pos c]
        rw [q]
        generalize putF r sh s.n k v = Q at *
        obtain ⟨sh', a, x, b⟩ := Q
        simp only at *
        subst et
        have b2 := bt.set (Q := Tr (sh ++ t) r) (fun _ _ _ q => q.app t) (i := i) (sa := ⟨a, putL s.L k v, f'⟩) (by omega) ⟨tr, putL_ne _ _ _⟩ lo up
        have tp : Tp (Tr (sh ++ t) r) ⟨false, p.keys, [], setAt p.kids i a⟩ (putL (lall S) k v) (fsum (setAt S i ⟨a, putL s.L k v, f'⟩) + ((setAt S i ⟨a, putL s.L k v, f'⟩).length - 11)) := by
          have gg := good_bt b2 z
          rw [map_set, ← e1] at gg
          exact ⟨gg, ne, Or.inr ⟨rfl, _, by simp only; rw [map_set, ← e1], by rw [lall_set, pm], rfl, b2⟩⟩
        have fs := fsum_set S i ⟨a, putL s.L k v, f'⟩
        simp only at fs
        have sl : (setAt S i (⟨a, putL s.L k v, f'⟩ : Seg)).length = S.length := setLen (by omega)
        have H := halv_ok tp (by omega) (fun q => by simp at q) (by simp only [List.length_append]; omega)
        obtain ⟨t2, et2, tl2⟩ := H.sh
        refine ⟨⟨t ++ t2, by rw [et2, List.append_assoc], by simp only [List.length_append]; omega⟩, fun q => ⟨_, H.one q, by rw [fs, sl]; omega⟩, fun q => ?_⟩
        obtain ⟨L1, L2, f1, f2, a1, a2, a3, a4, a5, a6, _, a8⟩ := H.two q
        have := a8 rfl
        rw [fs, sl] at this
        exact ⟨L1, L2, f1, f2, a1, a2, a3, a4, a5, a6, by omega, fun _ _ _ => by omega⟩
      · obtain ⟨M1, M2, g1, g2, m1, m2, m3, m4, m5, m6, m7, _⟩ := ih.two c
        have q : putF (r + 1) sh n k v = halv (putF r sh s.n k v).1 ⟨false, insAt p.keys i (putF r sh s.n k v).2.2.1, [], ins2 p.kids i (putF r sh s.n k v).2.1 (putF r sh s.n k v).2.2.2⟩ := by
          simp only [putF, h1, l, ← hi, gd]
          rw [if_neg (by simp), if_neg c]
        rw [q]
        generalize putF r sh s.n k v = Q at *
        obtain ⟨sh', a, x, b⟩ := Q
        simp only at *
        subst et
        rw [m1] at lo up pm
        have b2 := bt.ins (Q := Tr (sh ++ t) r) (fun _ _ _ q => q.app t) (i := i) (sa := ⟨a, M1, g1⟩) (sb := ⟨b, M2, g2⟩) (x := x) (by omega) ⟨m2, m2.ne⟩ ⟨m3, m3.ne⟩
          (fun h0 y hy => lo h0 y (by simp only at hy; simp [hy])) m4 m5 (fun h0 y hy => up h0 y (by simp only at hy; simp [hy]))
        have kz : Kz (insAt p.keys i x) := fun j hj => by
          rw [insAt_len (by omega)] at hj
          rw [kAt_ins (by omega)]
          by_cases c1 : j < i
          · rw [if_pos c1]; exact z j (by omega)
          · rw [if_neg c1]
            by_cases c2 : j = i
            · rw [if_pos c2]; exact m6
            · rw [if_neg c2]; exact z _ (by omega)
        have tp : Tp (Tr (sh ++ t) r) ⟨false, insAt p.keys i x, [], ins2 p.kids i a b⟩ (putL (lall S) k v) (fsum (ins2 S i ⟨a, M1, g1⟩ ⟨b, M2, g2⟩) + ((ins2 S i ⟨a, M1, g1⟩ ⟨b, M2, g2⟩).length - 11)) := by
          have gg := good_bt b2 kz
          rw [map_ins, ← e1] at gg
          refine ⟨gg, fun q => ?_, Or.inr ⟨rfl, _, by simp only; rw [map_ins, ← e1], by rw [lall_ins, pm], rfl, b2⟩⟩
          have := insAt_len (x := x) (l := p.keys) (i := i) (by omega)
          simp only at q
          rw [q] at this
          simp at this
        have fs := fsum_ins S i ⟨a, M1, g1⟩ ⟨b, M2, g2⟩
        simp only at fs
        have sl : (ins2 S i (⟨a, M1, g1⟩ : Seg) ⟨b, M2, g2⟩).length = S.length + 1 := ins2_len (by omega)
        have H := halv_ok tp (by omega) (fun q => by simp at q) (by simp only [List.length_append]; omega)
        obtain ⟨t2, et2, tl2⟩ := H.sh
        refine ⟨⟨t ++ t2, by rw [et2, List.append_assoc], by simp only [List.length_append]; omega⟩, fun q => ⟨_, H.one q, by rw [fs, sl]; omega⟩, fun q => ?_⟩
        obtain ⟨L1, L2, f1, f2, a1, a2, a3, a4, a5, a6, _, a8⟩ := H.two q
        have := a8 rfl
        rw [fs, sl] at this
        exact ⟨L1, L2, f1, f2, a1, a2, a3, a4, a5, a6, by omega, fun _ _ _ => by omega⟩

end Go.Proofs.Ythdjghmipepppaa

namespace Go.Proofs.Ythdjghmipepppaa
open Go.RowKit
set_option linter.unusedVariables false
set_option linter.unusedSimpArgs false

theorem del_get {α : Type} {l : List α} {i : Nat} (hi : i < l.length) (j : Nat) : (delAt l i)[j]? = if j < i then l[j]? else l[j + 1]? := by
  unfold delAt
  have e : (l.take i).length = i := by simp; omega
  by_cases c : j < i
  · rw [List.getElem?_append_left (by omega), if_pos c, List.getElem?_take, if_pos c]
  · rw [List.getElem?_append_right (by omega), e, if_neg c, List.getElem?_drop]
    congr 1
    omega
theorem kAt_del {ks : List ByteArray} {i : Nat} (hi : i < ks.length) (j : Nat) : kAt (delAt ks i) j = if j < i then kAt ks j else kAt ks (j + 1) := by
  have := del_get hi j
  unfold kAt List.getD
  rw [this]
  by_cases c : j < i
  · rw [if_pos c, if_pos c]
  · rw [if_neg c, if_neg c]
theorem Bt.del {P : Nat → List It → Nat → Prop} {ks : List ByteArray} {S : List Seg} (h : Bt P ks S) {i : Nat} (hi : i < S.length) (h2 : 1 ≤ ks.length) : Bt P (delAt ks (i - 1)) (delAt S i) := by
  have hl := h.len
  have rs := h.rise
  have hm : i - 1 < ks.length := by omega
  refine ⟨by rw [delAt_len hi, delAt_len hm]; omega, fun j s hj => ?_, fun j s hj h0 y hy => ?_, fun j s hj hlt y hy => ?_⟩
  · rw [del_get hi] at hj
    by_cases c : j < i
    · rw [if_pos c] at hj; exact h.ok j s hj
    · rw [if_neg c] at hj; exact h.ok _ s hj
  · rw [del_get hi] at hj
    rw [kAt_del hm]
    by_cases c : j < i
    · rw [if_pos c] at hj
      rw [if_pos (by omega)]
      exact h.lo j s hj h0 y hy
    · rw [if_neg c] at hj
      rw [if_neg (by omega), show j - 1 + 1 = j + 1 - 1 by omega]
      exact h.lo (j + 1) s hj (by omega) y hy
  · rw [delAt_len hm] at hlt
    rw [del_get hi] at hj
    rw [kAt_del hm]
    by_cases c : j < i
    · rw [if_pos c] at hj
      have a := h.hi j s hj (by omega) y hy
      by_cases d : j < i - 1
      · rw [if_pos d]; exact a
      · rw [if_neg d]; exact ltS_trans a (rs j (j + 1) (by omega) (by omega))
    · rw [if_neg c] at hj
      rw [if_neg (by omega)]
      exact h.hi (j + 1) s hj (by omega) y hy
theorem lall_del (S : List Seg) (i : Nat) : lall (delAt S i) = lall (S.take i) ++ lall (S.drop (i + 1)) := by unfold delAt; rw [lall_app]
theorem fsum_del (S : List Seg) (i : Nat) : fsum (delAt S i) = fsum (S.take i) + fsum (S.drop (i + 1)) := by unfold delAt; rw [fsum_app]
theorem map_del (S : List Seg) (i : Nat) : (delAt S i).map (·.n) = delAt (S.map (·.n)) i := by unfold delAt; simp
theorem mem_del {α : Type} {l : List α} {i : Nat} {x : α} (h : x ∈ delAt l i) : x ∈ l := by
  unfold delAt at h
  rcases List.mem_append.1 h with q | q
  · exact List.mem_of_mem_take q
  · exact List.mem_of_mem_drop q
theorem good_drop {p : Pg} (g : goodB p = true) (l : p.leaf = true) {k : ByteArray} (f : fnd p.keys k = true) : goodB (dropP p k) = true ∧ (dropP p k).leaf = true := by
  have e := (goodB_leaf g l).1
  obtain ⟨r, z⟩ := leaf_keys g
  have q := fnd_true f
  rw [dropP_yes f]
  refine ⟨good_leaf (delK_rise r k) (fun i hi => ?_) (fun i hi => ?_) ?_, rfl⟩
  · rw [kAt_get hi]
    obtain ⟨j, hj, e⟩ := List.mem_iff_getElem.1 (mem_del (List.getElem_mem hi))
    have := z j hj
    rw [kAt_get hj, e] at this
    exact this
  · rw [kAt_get hi]
    obtain ⟨j, hj, e⟩ := List.mem_iff_getElem.1 (mem_del (List.getElem_mem hi))
    have := valsB_at (goodB_parts g).2.1 hj
    rw [kAt_get hj, e] at this
    exact this
  · rw [delAt_len (by omega), delAt_len q.1, e]
theorem drop_bytes {p : Pg} (g : goodB p = true) (l : p.leaf = true) (h : (encP p).length ≤ 900) {k : ByteArray} (f : fnd p.keys k = true) : (encP (dropP p k)).length ≤ 900 := by
  obtain ⟨lf, ks, vs, is⟩ := p
  simp only at l f
  subst l
  have e : vs.length = ks.length := (goodB_leaf g rfl).1
  have q := fnd_true f
  rw [dropP_yes (p := ⟨true, ks, vs, is⟩) f]
  simp only
  rw [encP_leaf_len] at h ⊢
  have dl := delAt_len (l := ks) (i := posS ks k) q.1
  have hm : hd (delAt ks (posS ks k)).length ≤ hd ks.length := by
    unfold hd encH
    have := enc_mono (delAt ks (posS ks k)).length ks.length (by omega)
    simp only [List.length_cons]
    omega
  have sp := sumL_split (szs ks vs) (posS ks k)
  rw [← szs_take, ← szs_drop] at sp
  have s2 := sumL_split (szs (ks.drop (posS ks k)) (vs.drop (posS ks k))) 1
  rw [← szs_drop, List.drop_drop, List.drop_drop] at s2
  generalize posS ks k = P at *
  unfold delAt at *
  rw [szs_app _ _ _ _ (by simp; omega), sumL_app]
  omega

theorem dropL_len (L : List It) (k : ByteArray) : (dropL L k).length ≤ L.length := by
  unfold dropL
  induction L with
  | nil => simp
  | cons x L ih =>
    rw [List.length_append] at ih ⊢
    cases p : ltS x.1 k with
    | true => simp [p, ltS_asym p]; omega
    | false => cases q : ltS k x.1 <;> simp [p, q] <;> omega
/-- What comes in a page's place: keys, and kids, one more than keys, or none. -/
structure Run where
  keys : List ByteArray
  kids : List Nat
def halvR (sh : List Pg) (p : Pg) : List Pg × Run :=
  if (encP p).length ≤ 900 then (sh ++ [p], ⟨[], [sh.length + 1]⟩) else (sh ++ [spA p, spB p], ⟨[spK p], [sh.length + 1, sh.length + 2]⟩)
/-- What is left of a page. -/
def leftR (sh : List Pg) (p : Pg) : List Pg × Run :=
  if p.leaf = true then (if p.keys.length = 0 then (sh, ⟨[], []⟩) else halvR sh p)
  else (if p.kids.length < 2 then (sh, ⟨[], p.kids⟩) else halvR sh p)
/-- A branch with a run in its kid's place. -/
def withR (p : Pg) (i : Nat) (q : Run) : Pg :=
  ⟨false, if 0 < q.kids.length then p.keys.take i ++ q.keys ++ p.keys.drop i else if 0 < p.keys.length then delAt p.keys (i - 1) else p.keys, [], p.kids.take i ++ q.kids ++ p.kids.drop (i + 1)⟩
/-- Up from a leaf; what comes in a page's place is settled by σ. -/
def upG (σ : List Pg → Pg → List Pg × Run) : List (Pg × Nat) → List Pg × Run → List Pg × Run
  | [], q => q
  | st :: l, q => σ (upG σ l q).1 (withR st.1 st.2 (upG σ l q).2)
/-- The way down to the leaf where a key belongs. -/
def wayF : Nat → List Pg → Nat → ByteArray → List (Pg × Nat) × Pg
  | 0, _, _, _ => ([], zeroP)
  | r + 1, sh, n, k => match pgAt sh n with
    | none => ([], zeroP)
    | some p => if p.leaf = true then ([], p) else ((p, plS p.keys k) :: (wayF r sh (p.kids.getD (plS p.keys k) 0) k).1, (wayF r sh (p.kids.getD (plS p.keys k) 0) k).2)
theorem wayF_leaf {sh : List Pg} {n : Nat} {p : Pg} (h : pgAt sh n = some p) (l : p.leaf = true) (r : Nat) (k : ByteArray) : wayF (r + 1) sh n k = ([], p) := by simp only [wayF, h, l, if_true]
theorem wayF_branch {sh : List Pg} {n : Nat} {p : Pg} (h : pgAt sh n = some p) (l : p.leaf = false) (r : Nat) (k : ByteArray) : wayF (r + 1) sh n k = ((p, plS p.keys k) :: (wayF r sh (p.kids.getD (plS p.keys k) 0) k).1, (wayF r sh (p.kids.getD (plS p.keys k) 0) k).2) := by
  simp only [wayF, h, l]; rw [if_neg (by simp)]

structure QR (sh : List Pg) (r n : Nat) (M : List It) (f : Nat) (q : List Pg × Run) : Prop where
  grow : ∃ t, q.1 = sh ++ t ∧ t.length ≤ 2 * r
  cs : (q.2 = ⟨[], []⟩ ∧ M = []) ∨ (∃ a f', q.2 = ⟨[], [a]⟩ ∧ Tr q.1 r a M f' ∧ f' ≤ f + 1) ∨
    (∃ x a b L1 L2 f1 f2, q.2 = ⟨[x], [a, b]⟩ ∧ M = L1 ++ L2 ∧ Tr q.1 r a L1 f1 ∧ Tr q.1 r b L2 f2 ∧ (∀ y ∈ L1, ltS y.1 x = true) ∧ (∀ y ∈ L2, leS x y.1 = true) ∧ (1 ≤ x.size ∧ x.size ≤ 40) ∧ f1 + f2 ≤ f ∧ (∀ p, pgAt sh n = some p → p.leaf = false → f1 + f2 + 10 ≤ f))
theorem halvR_one {sh : List Pg} {p : Pg} (h : (halv sh p).2.2.2 = 0) : halvR sh p = ((halv sh p).1, ⟨[], [(halv sh p).2.1]⟩) := by
  unfold halvR
  unfold halv at h ⊢
  by_cases c : (encP p).length ≤ 900
  · rw [if_pos c, if_pos c]
  · rw [if_neg c] at h; simp at h
theorem halvR_two {sh : List Pg} {p : Pg} (h : (halv sh p).2.2.2 ≠ 0) : halvR sh p = ((halv sh p).1, ⟨[(halv sh p).2.2.1], [(halv sh p).2.1, (halv sh p).2.2.2]⟩) := by
  unfold halvR
  unfold halv at h ⊢
  by_cases c : (encP p).length ≤ 900
  · rw [if_pos c] at h; exact absurd rfl h
  · rw [if_neg c, if_neg c]
/-- A branch added, or its halves: what that means. -/
theorem halvR_br {sh0 t : List Pg} {r n : Nat} {p : Pg} {M : List It} {f F : Nat} (h : Tp (Tr (sh0 ++ t) r) p M F) (l : p.leaf = false) (hL : M.length ≤ 127) (hs : (sh0 ++ t).length < 2000000) (ht : t.length ≤ 2 * r) (hf : F ≤ f + 1) : QR sh0 (r + 1) n M f (halvR (sh0 ++ t) p) := by
  have H := halv_ok h hL (fun q => by rw [l] at q; cases q) hs
  obtain ⟨t2, et, tl⟩ := H.sh
  by_cases c : (halv (sh0 ++ t) p).2.2.2 = 0
  · rw [halvR_one c]
    exact ⟨⟨t ++ t2, by simp only; rw [et, List.append_assoc], by simp only [List.length_append]; omega⟩, Or.inr (Or.inl ⟨_, _, rfl, H.one c, hf⟩)⟩
  · rw [halvR_two c]
    obtain ⟨L1, L2, f1, f2, a1, a2, a3, a4, a5, a6, _, a8⟩ := H.two c
    have := a8 l
    exact ⟨⟨t ++ t2, by simp only; rw [et, List.append_assoc], by simp only [List.length_append]; omega⟩, Or.inr (Or.inr ⟨_, _, _, L1, L2, f1, f2, rfl, a1, a2, a3, a4, a5, a6, by omega, fun _ _ _ => by omega⟩)⟩
theorem ins2_app {α : Type} (l : List α) (i : Nat) (a b : α) : l.take i ++ [a, b] ++ l.drop (i + 1) = ins2 l i a b := by unfold ins2; simp
theorem setAt_app {α : Type} (l : List α) (i : Nat) (a : α) : l.take i ++ [a] ++ l.drop (i + 1) = setAt l i a := by unfold setAt; simp
theorem insAt_app {α : Type} (l : List α) (i : Nat) (a : α) : l.take i ++ [a] ++ l.drop i = insAt l i a := by unfold insAt; simp
theorem withR_none {p : Pg} (i : Nat) (h : 0 < p.keys.length) : withR p i ⟨[], []⟩ = ⟨false, delAt p.keys (i - 1), [], delAt p.kids i⟩ := by
  unfold withR delAt; simp [h]
theorem withR_one (p : Pg) (i a : Nat) : withR p i ⟨[], [a]⟩ = ⟨false, p.keys, [], setAt p.kids i a⟩ := by
  unfold withR setAt; simp
theorem withR_two (p : Pg) (i a b : Nat) (x : ByteArray) : withR p i ⟨[x], [a, b]⟩ = ⟨false, insAt p.keys i x, [], ins2 p.kids i a b⟩ := by
  unfold withR insAt ins2; simp
/-- One step up: a branch, whose kid was changed. -/
theorem left_step {sh : List Pg} {r n i : Nat} {p : Pg} {S : List Seg} {s : Seg} {M : List It} {Q : List Pg × Run} (g : goodB p = true) (l : p.leaf = false) (ne : p.keys ≠ []) (e1 : p.kids = S.map (·.n)) (bt : Bt (Tr sh r) p.keys S) (hsi : S[i]? = some s) (ih : QR sh r s.n M s.f Q)
    (lo : 0 < i → ∀ x ∈ M, leS (kAt p.keys (i - 1)) x.1 = true) (up : i < p.keys.length → ∀ x ∈ M, ltS x.1 (kAt p.keys i) = true) (hL : (lall (S.take i) ++ M ++ lall (S.drop (i + 1))).length ≤ 127) (hs : sh.length + 2 * (r + 1) < 2000000) :
    QR sh (r + 1) n (lall (S.take i) ++ M ++ lall (S.drop (i + 1))) (fsum S + (S.length - 11)) (leftR Q.1 (withR p i Q.2)) := by
  obtain ⟨rs, z⟩ := leaf_keys g
  have hl := bt.len
  have il := lt_of_some hsi
  have fa := fsum_at hsi
  have k1 : 1 ≤ p.keys.length := by
    rcases Nat.eq_zero_or_pos p.keys.length with q | q
    · exact absurd (List.length_eq_zero_iff.1 q) ne
    · exact q
  have kl : p.kids.length = S.length := by rw [e1, List.length_map]
  obtain ⟨sh', run⟩ := Q
  obtain ⟨⟨t, et, tl⟩, cs⟩ := ih
  simp only at et cs ⊢
  subst et
  obtain ⟨q, nl⟩ | ⟨a, f', q, tr, ff⟩ | ⟨x, a, b, M1, M2, g1, g2, q, m1, m2, m3, m4, m5, m6, m7, _⟩ := cs
  · rw [q, withR_none i (by omega)]
    have b2 := (bt.mono (Q := Tr (sh ++ t) r) (fun _ _ _ q => q.app t)).del il k1
    have im : i - 1 < p.keys.length := by omega
    have fs := fsum_del S i
    have dl : (delAt S i).length = S.length - 1 := delAt_len il
    have dk : (delAt p.kids i).length = S.length - 1 := by rw [delAt_len (by omega), kl]
    have dm : lall (S.take i) ++ M ++ lall (S.drop (i + 1)) = lall (delAt S i) := by rw [nl, List.append_nil, lall_del]
    rw [dm] at hL ⊢
    unfold leftR
    rw [if_neg (by simp)]
    simp only
    by_cases d : (delAt p.kids i).length < 2
    · rw [if_pos d]
      obtain ⟨s0, hs0⟩ : ∃ s0, (delAt S i)[0]? = some s0 := ⟨_, List.getElem?_eq_getElem (by omega)⟩
      have one : delAt S i = [s0] := by
        have e := split_at hs0
        rw [List.take_zero, List.nil_append, List.drop_of_length_le (by omega)] at e
        exact e
      have ok := b2.ok 0 s0 hs0
      have ek : delAt p.kids i = [s0.n] := by rw [e1, ← map_del, one]; rfl
      rw [ek]
      refine ⟨⟨t, rfl, by omega⟩, Or.inr (Or.inl ⟨_, s0.f, rfl, ?_, ?_⟩)⟩
      · rw [one]
        simp only [lall, List.flatMap_cons, List.flatMap_nil, List.append_nil]
        exact ok.1.up
      · rw [one] at fs
        simp only [fsum] at fs
        omega
    · rw [if_neg d]
      have dkk : (delAt p.keys (i - 1)).length = p.keys.length - 1 := delAt_len im
      have kz : Kz (delAt p.keys (i - 1)) := fun j hj => by
        rw [kAt_del im]
        by_cases c1 : j < i - 1
        · rw [if_pos c1]; exact z j (by omega)
        · rw [if_neg c1]; exact z _ (by omega)
      have gg := good_bt b2 kz
      rw [map_del, ← e1] at gg
      exact halvR_br ⟨gg, fun q => by simp only at q; rw [q] at dkk; simp at dkk; omega, Or.inr ⟨rfl, _, by simp only; rw [map_del, ← e1], rfl, rfl, b2⟩⟩ rfl hL (by simp only [List.length_append]; omega) tl (by rw [fs, dl]; omega)
  · rw [q, withR_one]
    have b2 := bt.set (Q := Tr (sh ++ t) r) (fun _ _ _ q => q.app t) (i := i) (sa := ⟨a, M, f'⟩) il ⟨tr, tr.ne⟩ lo up
    have gg := good_bt b2 z
    rw [map_set, ← e1] at gg
    have fs := fsum_set S i ⟨a, M, f'⟩
    simp only at fs
    have sl : (setAt S i (⟨a, M, f'⟩ : Seg)).length = S.length := setLen il
    unfold leftR
    rw [if_neg (by simp)]
    simp only
    rw [if_neg (by rw [setLen (by omega)]; omega)]
    exact halvR_br ⟨gg, ne, Or.inr ⟨rfl, _, by simp only; rw [map_set, ← e1], by rw [lall_set], rfl, b2⟩⟩ rfl hL (by simp only [List.length_append]; omega) tl (by rw [fs, sl]; omega)
  · rw [q, withR_two]
    rw [m1] at lo up
    have b2 := bt.ins (Q := Tr (sh ++ t) r) (fun _ _ _ q => q.app t) (i := i) (sa := ⟨a, M1, g1⟩) (sb := ⟨b, M2, g2⟩) (x := x) il ⟨m2, m2.ne⟩ ⟨m3, m3.ne⟩
      (fun h0 y hy => lo h0 y (by simp only at hy; simp [hy])) m4 m5 (fun h0 y hy => up h0 y (by simp only at hy; simp [hy]))
    have kz : Kz (insAt p.keys i x) := fun j hj => by
      rw [insAt_len (by omega)] at hj
      rw [kAt_ins (by omega)]
      by_cases c1 : j < i
      · rw [if_pos c1]; exact z j (by omega)
      · rw [if_neg c1]
        by_cases c2 : j = i
        · rw [if_pos c2]; exact m6
        · rw [if_neg c2]; exact z _ (by omega)
    have gg := good_bt b2 kz
    rw [map_ins, ← e1] at gg
    have fs := fsum_ins S i ⟨a, M1, g1⟩ ⟨b, M2, g2⟩
    simp only at fs
    have sl : (ins2 S i (⟨a, M1, g1⟩ : Seg) ⟨b, M2, g2⟩).length = S.length + 1 := ins2_len il
    unfold leftR
    rw [if_neg (by simp)]
    simp only
    rw [if_neg (by rw [ins2_len (by omega)]; omega)]
    refine halvR_br ⟨gg, fun q => ?_, Or.inr ⟨rfl, _, by simp only; rw [map_ins, ← e1], by rw [lall_ins, m1], rfl, b2⟩⟩ rfl hL (by simp only [List.length_append]; omega) tl (by rw [fs, sl]; omega)
    have := insAt_len (x := x) (l := p.keys) (i := i) (by omega)
    simp only at q
    rw [q] at this
    simp at this
/-- A key dropped. -/
def dropQ (r : Nat) (sh : List Pg) (n : Nat) (k : ByteArray) : List Pg × Run := upG leftR (wayF r sh n k).1 (leftR sh (dropP (wayF r sh n k).2 k))
theorem dropQ_leaf {sh : List Pg} {n : Nat} {p : Pg} (h1 : pgAt sh n = some p) (g : goodB p = true) (l : p.leaf = true) (h3 : (encP p).length ≤ 900) {k : ByteArray} (fd : fnd p.keys k = true) (r : Nat) :
    (dropQ (r + 1) sh n k = (sh, ⟨[], []⟩) ∧ (dropP p k).keys = []) ∨ (dropQ (r + 1) sh n k = (sh ++ [dropP p k], ⟨[], [sh.length + 1]⟩) ∧ (dropP p k).keys ≠ []) := by
  obtain ⟨g', l'⟩ := good_drop g l fd
  have q : dropQ (r + 1) sh n k = leftR sh (dropP p k) := by unfold dropQ; rw [wayF_leaf h1 l]; rfl
  rw [q]
  unfold leftR
  rw [if_pos l']
  by_cases c : (dropP p k).keys.length = 0
  · rw [if_pos c]; exact Or.inl ⟨rfl, List.length_eq_zero_iff.1 c⟩
  · rw [if_neg c]
    unfold halvR
    rw [if_pos (drop_bytes g l h3 fd)]
    exact Or.inr ⟨rfl, fun q => c (by rw [q]; rfl)⟩
theorem drop_ok (k : ByteArray) : ∀ (r : Nat) (sh : List Pg) (n : Nat) (L : List It) (f : Nat), Tr sh r n L f → (∃ x ∈ L, x.1 = k) → L.length ≤ 127 → sh.length + 2 * r < 2000000 → QR sh r n (dropL L k) f (dropQ r sh n k)
  | 0, _, _, _, _, h, _, _, _ => False.elim h
  | r + 1, sh, n, L, f, h, hx, hL, hs => by
    obtain ⟨p, h1, hp, h3⟩ := h
    obtain ⟨g, ne, ⟨l, rfl, rfl⟩ | ⟨l, S, e1, rfl, rfl, bt⟩⟩ := hp
    · have e := (goodB_leaf g l).1
      obtain ⟨rs, z⟩ := leaf_keys g
      have fd : fnd p.keys k = true := by
        obtain ⟨x, hx, rfl⟩ := hx
        obtain ⟨i, hi, rfl⟩ := zipK_mem e hx
        exact (fnd_mem rs).2 (by show kAt p.keys i ∈ p.keys; rw [kAt_get hi]; exact List.getElem_mem hi)
      obtain ⟨g', l'⟩ := good_drop g l fd
      have zd := zip_drop e rs k fd
      have e' := (goodB_leaf g' l').1
      obtain ⟨q, c⟩ | ⟨q, c⟩ := dropQ_leaf h1 g l (h3 l) fd r
      · rw [q]
        refine ⟨⟨[], by simp, by simp⟩, Or.inl ⟨rfl, ?_⟩⟩
        rw [← zd]
        have := zipK_len e'
        rw [c] at this
        exact List.length_eq_zero_iff.1 (by rw [c]; exact this)
      · rw [q]
        exact ⟨⟨_, rfl, by simp; omega⟩, Or.inr (Or.inl ⟨_, 0, rfl, ⟨dropP p k, pgAt_new sh _ [], ⟨g', c, Or.inl ⟨l', zd.symm, rfl⟩⟩, fun _ => drop_bytes g l (h3 l) fd⟩, by omega⟩)⟩
    · obtain ⟨rs, z⟩ := leaf_keys g
      have hl := bt.len
      have pl := plS_le p.keys k
      obtain ⟨i, hi⟩ : ∃ i, i = plS p.keys k := ⟨_, rfl⟩
      obtain ⟨s, hsi⟩ : ∃ s, S[i]? = some s := ⟨_, List.getElem?_eq_getElem (by omega)⟩
      have gd : p.kids.getD i 0 = s.n := by rw [e1]; exact getD_map hsi
      have la := lall_at hsi
      have ah := bt.ahead (k := k)
      have bh := bt.behind rs (k := k)
      rw [← hi] at ah bh
      have hx' : ∃ x ∈ s.L, x.1 = k := by
        obtain ⟨x, hx, rfl⟩ := hx
        rw [la] at hx
        rcases List.mem_append.1 hx with q | q
        · rcases List.mem_append.1 q with q | q
          · have := ah x q; rw [ltS_irrefl] at this; cases this
          · exact ⟨x, q, rfl⟩
        · have := bh x q; rw [ltS_irrefl] at this; cases this
      have sL : s.L.length ≤ 127 := by rw [la] at hL; simp only [List.length_append] at hL; omega
      have ih := drop_ok k r sh s.n s.L s.f (bt.ok i s hsi).1 hx' sL (by omega)
      have dm : dropL (lall S) k = lall (S.take i) ++ dropL s.L k ++ lall (S.drop (i + 1)) := by rw [la]; exact dropL_mid ah bh
      have dl : (dropL s.L k).length ≤ s.L.length := dropL_len s.L k
      have q : dropQ (r + 1) sh n k = leftR (dropQ r sh s.n k).1 (withR p i (dropQ r sh s.n k).2) := by
        unfold dropQ
        rw [wayF_branch h1 l, ← hi, gd]
        rfl
      rw [q, dm]
      exact left_step g l ne e1 bt hsi ih (fun h0 x hx => bt.lo i s hsi h0 x (dropL_mem hx).1) (fun h0 x hx => bt.hi i s hsi h0 x (dropL_mem hx).1) (by rw [la] at hL; simp only [List.length_append] at hL ⊢; omega) hs
/-- A key put in, by the way down. -/
def putQ (r : Nat) (sh : List Pg) (n : Nat) (k v : ByteArray) : List Pg × Run := upG halvR (wayF r sh n k).1 (halvR sh (putP (wayF r sh n k).2 k v))
def runOf (q : List Pg × Nat × ByteArray × Nat) : List Pg × Run := (q.1, if q.2.2.2 = 0 then ⟨[], [q.2.1]⟩ else ⟨[q.2.2.1], [q.2.1, q.2.2.2]⟩)
theorem runOf_halv (sh : List Pg) (p : Pg) : halvR sh p = runOf (halv sh p) := by
  unfold runOf
  by_cases c : (halv sh p).2.2.2 = 0
  · rw [halvR_one c, if_pos c]
  · rw [halvR_two c, if_neg c]
theorem putQ_is (k v : ByteArray) : ∀ (r : Nat) (sh : List Pg) (n : Nat) (L : List It) (f : Nat), Tr sh r n L f → putQ r sh n k v = runOf (putF r sh n k v)
  | 0, _, _, _, _, h => False.elim h
  | r + 1, sh, n, L, f, h => by
    obtain ⟨p, h1, hp, h3⟩ := h
    obtain ⟨g, ne, ⟨l, rfl, rfl⟩ | ⟨l, S, e1, rfl, rfl, bt⟩⟩ := hp
    · unfold putQ
      rw [wayF_leaf h1 l]
      simp only [upG, putF, h1, l, if_true]
      exact runOf_halv _ _
    · have hl := bt.len
      have pl := plS_le p.keys k
      obtain ⟨s, hsi⟩ : ∃ s, S[plS p.keys k]? = some s := ⟨_, List.getElem?_eq_getElem (by omega)⟩
      have gd : p.kids.getD (plS p.keys k) 0 = s.n := by rw [e1]; exact getD_map hsi
      have ih := putQ_is k v r sh s.n s.L s.f (bt.ok _ s hsi).1
      have q : putQ (r + 1) sh n k v = halvR (putQ r sh s.n k v).1 (withR p (plS p.keys k) (putQ r sh s.n k v).2) := by
        unfold putQ
        rw [wayF_branch h1 l, gd]
        rfl
      rw [q, ih]
      simp only [putF, h1, l, gd]
      rw [if_neg (by simp)]
      unfold runOf
      by_cases c : (putF r sh s.n k v).2.2.2 = 0
      · rw [if_pos c, if_pos c]
        simp only
        rw [withR_one, runOf_halv]
        rfl
      · rw [if_neg c, if_neg c]
        simp only
        rw [withR_two, runOf_halv]
        rfl

end Go.Proofs.Ythdjghmipepppaa

namespace Go.Proofs.Ythdjghmipepppaa
open Go.RowKit
set_option linter.unusedVariables false
set_option linter.unusedSimpArgs false

/-- The tree of a root (0: the empty one). -/
structure Rt (sh : List Pg) (root : Nat) (L : List It) (r f : Nat) : Prop where
  none : root = 0 → L = []
  some : root ≠ 0 → Tr sh r root L f
theorem Rt.app {sh : List Pg} {root : Nat} {L : List It} {r f : Nat} (h : Rt sh root L r f) (t : List Pg) : Rt (sh ++ t) root L r f := ⟨h.none, fun q => (h.some q).app t⟩
theorem Rt.srt {sh : List Pg} {root : Nat} {L : List It} {r f : Nat} (h : Rt sh root L r f) : Srt L := by
  by_cases c : root = 0
  · rw [h.none c]; exact List.Pairwise.nil
  · exact (h.some c).srt
def putT (r : Nat) (sh : List Pg) (root : Nat) (k v : ByteArray) : List Pg × Nat :=
  if root = 0 then (sh ++ [⟨true, [k], [v], []⟩], sh.length + 1)
  else if (putF r sh root k v).2.2.2 = 0 then ((putF r sh root k v).1, (putF r sh root k v).2.1)
  else ((putF r sh root k v).1 ++ [⟨false, [(putF r sh root k v).2.2.1], [], [(putF r sh root k v).2.1, (putF r sh root k v).2.2.2]⟩], (putF r sh root k v).1.length + 1)
theorem putF_leaf {sh : List Pg} {n : Nat} {p : Pg} (h : pgAt sh n = some p) (l : p.leaf = true) (r : Nat) (k v : ByteArray) : putF (r + 1) sh n k v = halv sh (putP p k v) := by simp only [putF, h, l, if_true]
theorem new_root {sh : List Pg} {r a b : Nat} {x : ByteArray} {L1 L2 : List It} {f1 f2 : Nat} (h1 : Tr sh r a L1 f1) (h2 : Tr sh r b L2 f2) (s1 : ∀ y ∈ L1, ltS y.1 x = true) (s2 : ∀ y ∈ L2, leS x y.1 = true) (hx : 1 ≤ x.size ∧ x.size ≤ 40) :
    Tr (sh ++ [⟨false, [x], [], [a, b]⟩]) (r + 1) (sh.length + 1) (L1 ++ L2) (f1 + f2) := by
  have bt : Bt (Tr sh r) [x] [⟨a, L1, f1⟩, ⟨b, L2, f2⟩] := by
    refine ⟨rfl, fun j s hj => ?_, fun j s hj h0 y hy => ?_, fun j s hj hlt y hy => ?_⟩
    · rcases j with _ | _ | j
      · simp at hj; subst hj; exact ⟨h1, h1.ne⟩
      · simp at hj; subst hj; exact ⟨h2, h2.ne⟩
      · simp at hj
    · rcases j with _ | _ | j
      · omega
      · simp at hj; subst hj; exact s2 y hy
      · simp at hj
    · rcases j with _ | j
      · simp at hj; subst hj; exact s1 y hy
      · simp at hlt
  have gg := good_bt bt (fun i hi => by
    have : i = 0 := by simpa using hi
    subst this
    exact hx)
  exact ⟨_, pgAt_new sh _ [], ⟨gg, by simp, Or.inr ⟨rfl, _, rfl, by simp [lall], by simp [fsum], bt.mono (fun _ _ _ q => q.app _)⟩⟩, fun q => by simp at q⟩
theorem putT_ok {sh : List Pg} {root : Nat} {L : List It} {r f : Nat} {k v : ByteArray} (h : Rt sh root L r f) (hk : 1 ≤ k.size ∧ k.size ≤ 40) (hv : v.size ≤ 400) (hL : L.length ≤ 126) (hs : sh.length + 2 * r < 2000000) :
    ∃ r' f', Rt (putT r sh root k v).1 (putT r sh root k v).2 (putL L k v) r' f' ∧ (putT r sh root k v).2 ≠ 0 ∧ 10 * (r' - 2) + f' ≤ 10 * (r - 2) + f + 1 ∧ r' ≤ r + 1 ∧ ∃ t, (putT r sh root k v).1 = sh ++ t ∧ t.length ≤ 2 * r + 1 := by
  unfold putT
  by_cases c : root = 0
  · rw [if_pos c, h.none c]
    have g : goodB ⟨true, [k], [v], []⟩ = true := good_leaf (fun i j hij hj => by simp at hj; omega) (fun i hi => by
      have : i = 0 := by simpa using hi
      subst this; exact hk) (fun i hi => by
      have : i = 0 := by simpa using hi
      subst this; exact hv) rfl
    have tr : Tr (sh ++ [⟨true, [k], [v], []⟩]) 1 (sh.length + 1) (putL [] k v) 0 := by
      refine ⟨_, pgAt_new sh _ [], ⟨g, by simp, Or.inl ⟨rfl, rfl, rfl⟩⟩, fun _ => ?_⟩
      rw [encP_leaf_len, hd2 (by simp)]
      have := item_443 hk.2 hv
      simp only [szs, sumL]
      omega
    exact ⟨1, 0, ⟨fun q => by simp at q, fun _ => tr⟩, by simp, by omega, by omega, _, rfl, by simp⟩
  · rw [if_neg c]
    have tr := h.some c
    have P := put_ok k v hk hv r sh root L f tr hL hs
    obtain ⟨t, et, tl⟩ := P.grow
    by_cases d : (putF r sh root k v).2.2.2 = 0
    · rw [if_pos d]
      obtain ⟨f', t1, t2⟩ := P.one d
      exact ⟨r, f', ⟨fun q => by have := t1.num; simp only at q; omega, fun _ => t1⟩, by have := t1.num; simp only; omega, by omega, by omega, t, et, by omega⟩
    · rw [if_neg d]
      refine ⟨?_, ?_⟩
      · exact if ∃ p, pgAt sh root = some p ∧ p.leaf = true then 2 else r + 1
      · by_cases lf0 : ∃ p, pgAt sh root = some p ∧ p.leaf = true
        · rw [if_pos lf0]
          obtain ⟨p, hp, l⟩ := lf0
          have t1 : Tr sh 1 root L 0 := by
            cases r with
            | zero => exact False.elim tr
            | succ r =>
              obtain ⟨p', hp', q, e3⟩ := tr
              rw [hp] at hp'
              cases hp'
              obtain ⟨g, ne, ⟨_, q1, q2⟩ | ⟨q1, _⟩⟩ := q
              · exact ⟨p, hp, ⟨g, ne, Or.inl ⟨l, q1, rfl⟩⟩, e3⟩
              · rw [l] at q1; cases q1
          have e : putF r sh root k v = putF 1 sh root k v := by
            cases r with
            | zero => exact False.elim tr
            | succ r => rw [putF_leaf hp l, putF_leaf hp l]
          have P1 := put_ok k v hk hv 1 sh root L 0 t1 hL (by cases r with | zero => exact False.elim tr | succ r => omega)
          rw [e] at d ⊢
          obtain ⟨t', et', tl'⟩ := P1.grow
          obtain ⟨L1, L2, f1, f2, a1, a2, a3, a4, a5, a6, a7, _⟩ := P1.two d
          have nr := new_root a2 a3 a4 a5 a6
          rw [← a1] at nr
          have r1 : 1 ≤ r := by cases r with | zero => exact False.elim tr | succ r => omega
          exact ⟨f1 + f2, ⟨fun q => by simp at q, fun _ => nr⟩, by simp, by omega, by omega, t' ++ [_], by simp only; rw [et', List.append_assoc], by simp; omega⟩
        · rw [if_neg lf0]
          obtain ⟨L1, L2, f1, f2, a1, a2, a3, a4, a5, a6, a7, a8⟩ := P.two d
          have nr := new_root a2 a3 a4 a5 a6
          rw [← a1] at nr
          obtain ⟨p, hp, br⟩ : ∃ p, pgAt sh root = some p ∧ p.leaf = false := by
            cases r with
            | zero => exact False.elim tr
            | succ r =>
              obtain ⟨p, hp, _⟩ := tr
              cases l : p.leaf with
              | true => exact absurd ⟨p, hp, l⟩ lf0
              | false => exact ⟨p, hp, l⟩
          have := a8 p hp br
          have r2 : 2 ≤ r := by
            cases r with
            | zero => exact False.elim tr
            | succ r =>
              cases r with
              | zero =>
                obtain ⟨p', hp', ⟨g, ne, ⟨q1, _⟩ | ⟨q1, S, _, _, _, bt⟩⟩, _⟩ := tr
                · rw [hp] at hp'; cases hp'; rw [br] at q1; cases q1
                · obtain ⟨s, hs⟩ : ∃ s, S[0]? = some s := ⟨_, List.getElem?_eq_getElem (by have := bt.len; omega)⟩
                  exact False.elim (bt.ok 0 s hs).1
              | succ r => omega
          exact ⟨f1 + f2, ⟨fun q => by simp at q, fun _ => nr⟩, by simp, by omega, by omega, t ++ [_], by simp only; rw [et, List.append_assoc], by simp; omega⟩
/-- What stands for a key. -/
def getL (L : List It) (k : ByteArray) : Option ByteArray := (L.find? (fun x => decide (x.1 = k))).map (·.2)
def findF : Nat → List Pg → Nat → ByteArray → Option ByteArray
  | 0, _, _, _ => none
  | r + 1, sh, n, k => match pgAt sh n with
    | none => none
    | some p => if p.leaf = true then (if fnd p.keys k then some (kAt p.vals (posS p.keys k)) else none) else findF r sh (p.kids.getD (plS p.keys k) 0) k
theorem getL_none {L : List It} {k : ByteArray} (h : ∀ x ∈ L, x.1 ≠ k) : getL L k = none := by
  unfold getL
  rw [List.find?_eq_none.2 (fun x hx => by rw [decide_eq_true_eq]; exact h x hx)]
  rfl
theorem getL_mid {A M B : List It} {k : ByteArray} (ha : ∀ x ∈ A, x.1 ≠ k) (hb : ∀ x ∈ B, x.1 ≠ k) : getL (A ++ M ++ B) k = getL M k := by
  unfold getL
  have na : A.find? (fun x => decide (x.1 = k)) = none := List.find?_eq_none.2 (fun x hx => by rw [decide_eq_true_eq]; exact ha x hx)
  have nb : B.find? (fun x => decide (x.1 = k)) = none := List.find?_eq_none.2 (fun x hx => by rw [decide_eq_true_eq]; exact hb x hx)
  rw [List.find?_append, List.find?_append, na, nb]
  simp
theorem getL_zip {ks vs : List ByteArray} (e : vs.length = ks.length) (r : Rise ks) (k : ByteArray) : getL (zipK ks vs) k = if fnd ks k then some (kAt vs (posS ks k)) else none := by
  cases f : fnd ks k with
  | true =>
    have q := fnd_true f
    have at_ := zipK_at e q.1
    rw [q.2] at at_
    rw [split_at at_]
    have d := getL_mid (A := (zipK ks vs).take (posS ks k)) (M := [(k, kAt vs (posS ks k))]) (B := (zipK ks vs).drop (posS ks k + 1)) (k := k) (fun x hx => by
      rw [← zipK_below e r] at hx
      exact ltS_ne (List.mem_filter.1 hx).2) (fun x hx => by
      have e2 : plS ks k = posS ks k + 1 := by unfold plS; rw [f]; rfl
      rw [← e2, ← zipK_above e r] at hx
      exact (ltS_ne (List.mem_filter.1 hx).2).symm)
    rw [List.append_assoc] at d
    have s : [(k, kAt vs (posS ks k))] ++ (zipK ks vs).drop (posS ks k + 1) = (k, kAt vs (posS ks k)) :: (zipK ks vs).drop (posS ks k + 1) := rfl
    rw [s] at d
    rw [d]
    simp [getL]
  | false =>
    rw [getL_none]
    · rfl
    · intro x hx q
      obtain ⟨i, hi, rfl⟩ := zipK_mem e hx
      have : k ∈ ks := by rw [← q]; show kAt ks i ∈ ks; rw [kAt_get hi]; exact List.getElem_mem hi
      rw [(fnd_mem r).2 this] at f
      cases f
theorem find_ok (k : ByteArray) : ∀ (r : Nat) (sh : List Pg) (n : Nat) (L : List It) (f : Nat), Tr sh r n L f → findF r sh n k = getL L k
  | 0, _, _, _, _, h => False.elim h
  | r + 1, sh, n, L, f, h => by
    obtain ⟨p, h1, hp, h3⟩ := h
    obtain ⟨g, ne, ⟨l, rfl, rfl⟩ | ⟨l, S, e1, rfl, rfl, bt⟩⟩ := hp
    · simp only [findF, h1, l, if_true]
      rw [getL_zip (goodB_leaf g l).1 (leaf_keys g).1]
    · have hl := bt.len
      have pl := plS_le p.keys k
      obtain ⟨s, hsi⟩ : ∃ s, S[plS p.keys k]? = some s := ⟨_, List.getElem?_eq_getElem (by omega)⟩
      have gd : p.kids.getD (plS p.keys k) 0 = s.n := by rw [e1]; exact getD_map hsi
      simp only [findF, h1, l, gd]
      rw [if_neg (by simp), find_ok k r sh s.n s.L s.f (bt.ok _ s hsi).1, lall_at hsi, getL_mid (fun x hx => ltS_ne (bt.ahead x hx)) (fun x hx => (ltS_ne (bt.behind (leaf_keys g).1 x hx)).symm)]
/-- All items; all pages. -/
def itemsF : Nat → List Pg → Nat → List It
  | 0, _, _ => []
  | r + 1, sh, n => match pgAt sh n with
    | none => []
    | some p => if p.leaf = true then zipK p.keys p.vals else p.kids.flatMap (itemsF r sh)
def pagesF : Nat → List Pg → Nat → List Nat
  | 0, _, _ => []
  | r + 1, sh, n => match pgAt sh n with
    | none => []
    | some p => if p.leaf = true then [n] else n :: p.kids.flatMap (pagesF r sh)
theorem flat_same {S : List Seg} {g : Nat → List It} (h : ∀ (j : Nat) (s : Seg), S[j]? = some s → g s.n = s.L) : (S.map (·.n)).flatMap g = lall S := by
  induction S with
  | nil => rfl
  | cons s S ih =>
    have a := h 0 s rfl
    have b := ih (fun j t hj => h (j + 1) t (by simpa using hj))
    simp only [List.map_cons, List.flatMap_cons, lall_cons]
    rw [a, b]
theorem items_ok : ∀ (r : Nat) (sh : List Pg) (n : Nat) (L : List It) (f : Nat), Tr sh r n L f → itemsF r sh n = L
  | 0, _, _, _, _, h => False.elim h
  | r + 1, sh, n, L, f, h => by
    obtain ⟨p, h1, hp, h3⟩ := h
    obtain ⟨g, ne, ⟨l, rfl, rfl⟩ | ⟨l, S, e1, rfl, rfl, bt⟩⟩ := hp
    · simp only [itemsF, h1, l, if_true]
    · simp only [itemsF, h1, l]
      rw [if_neg (by simp), e1]
      exact flat_same (fun j s hj => items_ok r sh s.n s.L s.f (bt.ok j s hj).1)
theorem flat_len {S : List Seg} {g : Nat → List Nat} (h : ∀ (j : Nat) (s : Seg), S[j]? = some s → (g s.n).length + 1 ≤ 2 * s.L.length) : ((S.map (·.n)).flatMap g).length + S.length ≤ 2 * (lall S).length := by
  induction S with
  | nil => simp [lall]
  | cons s S ih =>
    have a := h 0 s rfl
    have b := ih (fun j t hj => h (j + 1) t (by simpa using hj))
    simp only [List.map_cons, List.flatMap_cons, lall_cons, List.length_append, List.length_cons]
    omega
/-- A tree has fewer pages than twice its items. -/
theorem pages_few : ∀ (r : Nat) (sh : List Pg) (n : Nat) (L : List It) (f : Nat), Tr sh r n L f → (pagesF r sh n).length + 1 ≤ 2 * L.length
  | 0, _, _, _, _, h => False.elim h
  | r + 1, sh, n, L, f, h => by
    have ne' := h.ne
    obtain ⟨p, h1, hp, h3⟩ := h
    obtain ⟨g, ne, ⟨l, rfl, rfl⟩ | ⟨l, S, e1, rfl, rfl, bt⟩⟩ := hp
    · simp only [pagesF, h1, l, if_true]
      have : 0 < (zipK p.keys p.vals).length := List.length_pos_iff.2 ne'
      simp only [List.length_cons, List.length_nil]
      omega
    · simp only [pagesF, h1, l]
      rw [if_neg (by simp), e1]
      have hl := bt.len
      have k1 : 0 < p.keys.length := List.length_pos_iff.2 ne
      have := flat_len (S := S) (g := pagesF r sh) (fun j s hj => pages_few r sh s.n s.L s.f (bt.ok j s hj).1)
      simp only [List.length_cons]
      omega

end Go.Proofs.Ythdjghmipepppaa

namespace Go.Proofs.Ythdjghmipepppaa
open Go.RowKit
set_option linter.unusedVariables false
set_option linter.unusedSimpArgs false

theorem encK_2 : ∀ ks : List ByteArray, (∀ s ∈ ks, 1 ≤ s.size ∧ s.size ≤ 40) → 2 * ks.length ≤ (encK ks).length
  | [], _ => by simp
  | s :: ks, h => by
    have := encK_2 ks (fun x hx => h x (by simp [hx]))
    have a := h s (by simp)
    have := encS_short (s := s) (by omega)
    simp only [encK, List.length_append, List.length_cons]
    omega
theorem encN_1 : ∀ is : List Nat, is.length ≤ (encN is).length
  | [] => by simp
  | k :: is => by
    have := encN_1 is
    have := enc_pos k
    simp only [encN, List.length_append, List.length_cons]
    omega
theorem encK_cut (ks : List ByteArray) (m : Nat) : (encK ks).length = (encK (ks.take m)).length + (encK (ks.drop m)).length := by
  conv => lhs; rw [← List.take_append_drop m ks]
  rw [encK_app, List.length_append]
theorem encN_cut (is : List Nat) (m : Nat) : (encN is).length = (encN (is.take m)).length + (encN (is.drop m)).length := by
  conv => lhs; rw [← List.take_append_drop m is]
  rw [encN_app, List.length_append]
theorem branch_len {ks : List ByteArray} {is : List Nat} (h : ks.length ≤ 127) : (encP ⟨false, ks, [], is⟩).length = 2 + (encK ks).length + (encN is).length := by
  rw [encP_branch rfl]
  simp only [List.length_append]
  unfold encH
  rw [enc_lt (by omega)]
  simp only [List.length_cons, List.length_nil]
  omega
theorem kz_both {ks : List ByteArray} (z : Kz ks) : ∀ s ∈ ks, 1 ≤ s.size ∧ s.size ≤ 40 := fun s hs => by
  obtain ⟨i, hi, rfl⟩ := List.mem_iff_getElem.1 hs
  have := z i hi
  rwa [kAt_get hi] at this
/-- Halves of a branch that is a little too great. -/
theorem br_fit {ks : List ByteArray} {is : List Nat} (z : Kz ks) (e : is.length = ks.length + 1) (k : ∀ k ∈ is, k < 2097152) (n : ks.length ≤ 127) (h : (encP ⟨false, ks, [], is⟩).length ≤ 950) (m : Nat) (hm : m = ks.length / 2) (n21 : 21 ≤ ks.length) :
    (encP ⟨false, ks.take m, [], is.take (m + 1)⟩).length ≤ 900 ∧ (encP ⟨false, ks.drop (m + 1), [], is.drop (m + 1)⟩).length ≤ 900 := by
  rw [branch_len n] at h
  rw [branch_len (by simp; omega), branch_len (by simp; omega)]
  have zb := kz_both z
  have a1 := encK_cut ks m
  have a2 := encK_cut ks (m + 1)
  have a3 := encN_cut is (m + 1)
  have b1 := encK_2 (ks.drop m) (fun s hs => zb s (List.mem_of_mem_drop hs))
  have b2 := encK_2 (ks.take (m + 1)) (fun s hs => zb s (List.mem_of_mem_take hs))
  have b3 := encN_1 (is.drop (m + 1))
  have b4 := encN_1 (is.take (m + 1))
  have c1 := encK_41 (ks.take m) (fun s hs => (zb s (List.mem_of_mem_take hs)).2)
  have c2 := encK_41 (ks.drop (m + 1)) (fun s hs => (zb s (List.mem_of_mem_drop hs)).2)
  have c3 := encN_3 (is.take (m + 1)) (fun x hx => k x (List.mem_of_mem_take hx))
  have c4 := encN_3 (is.drop (m + 1)) (fun x hx => k x (List.mem_of_mem_drop hx))
  simp only [List.length_take, List.length_drop] at b1 b2 b3 b4 c1 c2 c3 c4
  rw [e] at b3 b4 c3 c4
  rw [Nat.min_eq_left (by omega)] at b2 b4 c1 c3
  omega
theorem set_bytes {ks : List ByteArray} {is : List Nat} {i a : Nat} (h : (encP ⟨false, ks, [], is⟩).length ≤ 900) (n : ks.length ≤ 127) (hi : i < is.length) (ha : a < 2097152) : (encP ⟨false, ks, [], setAt is i a⟩).length ≤ 950 := by
  rw [branch_len n] at h ⊢
  have a1 := encN_cut is i
  have a2 := encN_cut (is.drop i) 1
  rw [List.drop_drop] at a2
  have a3 := enc_len 2 a (by omega)
  unfold setAt
  rw [encN_app, List.length_append]
  simp only [encN, List.length_append]
  omega
theorem ins_bytes {ks : List ByteArray} {is : List Nat} {i a b : Nat} {x : ByteArray} (h : (encP ⟨false, ks, [], is⟩).length ≤ 900) (n : ks.length ≤ 126) (hi : i ≤ ks.length) (hi2 : i < is.length) (ha : a < 2097152) (hb : b < 2097152) (hx : x.size ≤ 40) : (encP ⟨false, insAt ks i x, [], ins2 is i a b⟩).length ≤ 950 := by
  rw [branch_len (by omega)] at h
  rw [branch_len (by rw [insAt_len hi]; omega)]
  have k1 := encK_cut ks i
  have k2 := encS_short (s := x) (by omega)
  have a1 := encN_cut is i
  have a2 := encN_cut (is.drop i) 1
  rw [List.drop_drop] at a2
  have a3 := enc_len 2 a (by omega)
  have a4 := enc_len 2 b (by omega)
  unfold insAt ins2
  rw [encN_app, List.length_append, encK_app, List.length_append]
  simp only [encN, encK, List.length_append]
  omega
/-- All leaves are d pages deep, no branch too great. -/
def Uf (sh : List Pg) : Nat → Nat → Prop
  | 0, _ => False
  | d + 1, n => ∃ p, pgAt sh n = some p ∧ ((d = 0 ∧ p.leaf = true) ∨ (p.leaf = false ∧ (encP p).length ≤ 900 ∧ ∀ k ∈ p.kids, Uf sh d k))
theorem Uf.app {sh : List Pg} (t : List Pg) : ∀ {d n : Nat}, Uf sh d n → Uf (sh ++ t) d n
  | 0, _, h => h
  | d + 1, n, ⟨p, h1, h2⟩ => ⟨p, pgAt_app h1 t, h2.imp id (fun ⟨a, b, c⟩ => ⟨a, b, fun k hk => Uf.app t (c k hk)⟩)⟩
theorem halv_uf {sh : List Pg} {d : Nat} {ks : List ByteArray} {is : List Nat} (z : Kz ks) (e : is.length = ks.length + 1) (n : ks.length ≤ 127) (kb : ∀ k ∈ is, k < 2097152) (h : (encP ⟨false, ks, [], is⟩).length ≤ 950) (g : goodB ⟨false, ks, [], is⟩ = true) (kids : ∀ k ∈ is, Uf sh d k) :
    Uf (halv sh ⟨false, ks, [], is⟩).1 (d + 1) (halv sh ⟨false, ks, [], is⟩).2.1 ∧ ((halv sh ⟨false, ks, [], is⟩).2.2.2 ≠ 0 → Uf (halv sh ⟨false, ks, [], is⟩).1 (d + 1) (halv sh ⟨false, ks, [], is⟩).2.2.2) := by
  unfold halv
  by_cases c : (encP ⟨false, ks, [], is⟩).length ≤ 900
  · rw [if_pos c]
    exact ⟨⟨_, pgAt_new sh _ [], Or.inr ⟨rfl, c, fun k hk => (kids k hk).app _⟩⟩, fun q => absurd rfl q⟩
  · rw [if_neg c]
    have n21 := many_keys g rfl kb (by omega)
    simp only at n21
    have ft := br_fit z e kb n h _ rfl n21
    have eA : spA ⟨false, ks, [], is⟩ = ⟨false, ks.take (ks.length / 2), [], is.take (ks.length / 2 + 1)⟩ := by unfold spA; rw [if_neg (by simp), if_pos ⟨rfl, by simp only; omega⟩]; rfl
    have eB : spB ⟨false, ks, [], is⟩ = ⟨false, ks.drop (ks.length / 2 + 1), [], is.drop (ks.length / 2 + 1)⟩ := by unfold spB; rw [if_neg (by simp), if_pos ⟨rfl, by simp only; omega⟩]; rfl
    rw [eA, eB]
    exact ⟨⟨_, pgAt_new sh _ [_], Or.inr ⟨rfl, ft.1, fun k hk => (kids k (List.mem_of_mem_take hk)).app _⟩⟩, fun _ => ⟨_, pgAt_new2 sh _ _, Or.inr ⟨rfl, ft.2, fun k hk => (kids k (List.mem_of_mem_drop hk)).app _⟩⟩⟩
theorem mem_setAt {α : Type} {l : List α} {i : Nat} {x y : α} (h : y ∈ setAt l i x) : y = x ∨ y ∈ l := by
  unfold setAt at h
  rcases List.mem_append.1 h with q | q
  · exact Or.inr (List.mem_of_mem_take q)
  · rcases List.mem_cons.1 q with q | q
    · exact Or.inl q
    · exact Or.inr (List.mem_of_mem_drop q)
theorem mem_ins2 {α : Type} {l : List α} {i : Nat} {x z y : α} (h : y ∈ ins2 l i x z) : y = x ∨ y = z ∨ y ∈ l := by
  unfold ins2 at h
  rcases List.mem_append.1 h with q | q
  · exact Or.inr (Or.inr (List.mem_of_mem_take q))
  · rcases List.mem_cons.1 q with q | q
    · exact Or.inl q
    · rcases List.mem_cons.1 q with q | q
      · exact Or.inr (Or.inl q)
      · exact Or.inr (Or.inr (List.mem_of_mem_drop q))
/-- A tree has fewer keys in a branch than items. -/
theorem Bt.few {P : Nat → List It → Nat → Prop} {ks : List ByteArray} {S : List Seg} (h : Bt P ks S) : S.length ≤ (lall S).length := by
  have g : ∀ T : List Seg, (∀ s ∈ T, s.L ≠ []) → T.length ≤ (lall T).length := by
    intro T
    induction T with
    | nil => intro _; simp
    | cons s T ih =>
      intro hT
      have a : 0 < s.L.length := List.length_pos_iff.2 (hT s (by simp))
      have b := ih (fun t ht => hT t (by simp [ht]))
      rw [lall_cons, List.length_append, List.length_cons]
      omega
  refine g S (fun s hs => ?_)
  obtain ⟨j, hj, rfl⟩ := List.mem_iff_getElem.1 hs
  exact (h.ok j _ (List.getElem?_eq_getElem hj)).2
theorem put_uf (k v : ByteArray) (hk : 1 ≤ k.size ∧ k.size ≤ 40) (hv : v.size ≤ 400) : ∀ (d : Nat) (sh : List Pg) (n : Nat) (L : List It) (f : Nat), Tr sh d n L f → Uf sh d n → L.length ≤ 126 → sh.length + 2 * d < 2000000 → Uf (putF d sh n k v).1 d (putF d sh n k v).2.1 ∧ ((putF d sh n k v).2.2.2 ≠ 0 → Uf (putF d sh n k v).1 d (putF d sh n k v).2.2.2)
  | 0, _, _, _, _, h, _, _, _ => False.elim h
  | d + 1, sh, n, L, f, h, u, hL, hs => by
    obtain ⟨p, h1, hp, h3⟩ := h
    obtain ⟨p', u1, u2⟩ := u
    rw [h1] at u1
    cases u1
    obtain ⟨g, ne, ⟨l, rfl, rfl⟩ | ⟨l, S, e1, rfl, rfl, bt⟩⟩ := hp
    · obtain ⟨d0, _⟩ | ⟨q, _⟩ := u2
      · subst d0
        rw [putF_leaf h1 l]
        unfold halv
        have l' := (good_put g l hk hv).2.1
        by_cases c : (encP (putP p k v)).length ≤ 900
        · rw [if_pos c]
          exact ⟨⟨_, pgAt_new sh _ [], Or.inl ⟨rfl, l'⟩⟩, fun q => absurd rfl q⟩
        · rw [if_neg c]
          have P := put_ok k v hk hv 1 sh n (zipK p.keys p.vals) 0 ⟨p, h1, ⟨g, ne, Or.inl ⟨l, rfl, rfl⟩⟩, h3⟩ hL (by omega)
          rw [putF_leaf h1 l] at P
          unfold halv at P
          rw [if_neg c] at P
          obtain ⟨L1, L2, f1, f2, _, a2, a3, _⟩ := P.two (by simp)
          obtain ⟨pa, ha, ⟨_, _, ⟨la, _⟩ | ⟨_, Sa, _, _, _, ba⟩⟩, _⟩ := a2
          · obtain ⟨pb, hb, ⟨_, _, ⟨lb, _⟩ | ⟨_, Sb, _, _, _, bb⟩⟩, _⟩ := a3
            · exact ⟨⟨pa, ha, Or.inl ⟨rfl, la⟩⟩, fun _ => ⟨pb, hb, Or.inl ⟨rfl, lb⟩⟩⟩
            · obtain ⟨s, hs'⟩ : ∃ s, Sb[0]? = some s := ⟨_, List.getElem?_eq_getElem (by have := bb.len; omega)⟩
              exact False.elim (bb.ok 0 s hs').1
          · obtain ⟨s, hs'⟩ : ∃ s, Sa[0]? = some s := ⟨_, List.getElem?_eq_getElem (by have := ba.len; omega)⟩
            exact False.elim (ba.ok 0 s hs').1
      · rw [l] at q; cases q
    · obtain ⟨_, q⟩ | ⟨_, ub, uk⟩ := u2
      · rw [l] at q; cases q
      · obtain ⟨rs, z⟩ := leaf_keys g
        have hl := bt.len
        have pl := plS_le p.keys k
        have few := bt.few
        obtain ⟨i, hi⟩ : ∃ i, i = plS p.keys k := ⟨_, rfl⟩
        obtain ⟨s, hsi⟩ : ∃ s, S[i]? = some s := ⟨_, List.getElem?_eq_getElem (by omega)⟩
        have gd : p.kids.getD i 0 = s.n := by rw [e1]; exact getD_map hsi
        have la := lall_at hsi
        have sL : s.L.length ≤ 126 := by rw [la] at hL; simp only [List.length_append] at hL; omega
        have trs := (bt.ok i s hsi).1
        have us : Uf sh d s.n := uk _ (by rw [e1]; exact List.mem_map.2 ⟨s, List.mem_of_getElem? hsi, rfl⟩)
        have ih := put_ok k v hk hv d sh s.n s.L s.f trs sL (by omega)
        have iu := put_uf k v hk hv d sh s.n s.L s.f trs us sL (by omega)
        have Pn := put_ok k v hk hv (d + 1) sh n (lall S) _ ⟨p, h1, ⟨g, ne, Or.inr ⟨l, S, e1, rfl, rfl, bt⟩⟩, h3⟩ hL hs
        obtain ⟨t, et, tl⟩ := ih.grow
        have kl : p.kids.length = p.keys.length + 1 := (goodB_branch g l).2
        have kb : ∀ k ∈ p.kids, k < 2000000 := fun x hx => by
          rw [e1] at hx
          obtain ⟨s', hs', rfl⟩ := List.mem_map.1 hx
          obtain ⟨j, hj, rfl⟩ := List.mem_iff_getElem.1 hs'
          have := (bt.ok j _ (List.getElem?_eq_getElem hj)).1.num
          omega
        have ep : p = ⟨false, p.keys, [], p.kids⟩ := by
          have := (goodB_branch g l).1
          obtain ⟨a, b, c, dd⟩ := p
          simp only at l this
          subst l this
          rfl
        rw [ep] at ub
        by_cases c : (putF d sh s.n k v).2.2.2 = 0
        · obtain ⟨f', tr, _⟩ := ih.one c
          have q : putF (d + 1) sh n k v = halv (putF d sh s.n k v).1 ⟨false, p.keys, [], setAt p.kids i (putF d sh s.n k v).2.1⟩ := by
            simp only [putF, h1, l, ← hi, gd]
            rw [if_neg (by simp), if_pos c]
          have num := tr.num
          rw [q]
          generalize putF d sh s.n k v = Q at *
          obtain ⟨sh', a, x, b⟩ := Q
          simp only at *
          subst et
          simp only [List.length_append] at num
          have lo : 0 < i → ∀ y ∈ putL s.L k v, leS (kAt p.keys (i - 1)) y.1 = true := fun h0 y hy => by
            rcases putL_mem hy with q | q
            · rw [q]; show leS _ k = true; exact pl_le (by omega)
            · exact bt.lo i s hsi h0 y q
          have up : i < p.keys.length → ∀ y ∈ putL s.L k v, ltS y.1 (kAt p.keys i) = true := fun h0 y hy => by
            rcases putL_mem hy with q | q
            · rw [q]; show ltS k _ = true; exact pl_gt rs (by omega) h0
            · exact bt.hi i s hsi h0 y q
          have b2 := bt.set (Q := Tr (sh ++ t) d) (fun _ _ _ q => q.app t) (i := i) (sa := ⟨a, putL s.L k v, f'⟩) (by omega) ⟨tr, putL_ne _ _ _⟩ lo up
          have gg := good_bt b2 z
          rw [map_set, ← e1] at gg
          refine halv_uf z (by rw [setLen (by omega)]; exact kl) (by omega) (fun y hy => ?_) (set_bytes ub (by omega) (by omega) (by omega)) gg (fun y hy => ?_)
          · rcases mem_setAt hy with q | q
            · omega
            · have := kb y q; omega
          · rcases mem_setAt hy with q | q
            · rw [q]; exact iu.1
            · exact (uk y q).app t
        · obtain ⟨M1, M2, g1, g2, m1, m2, m3, m4, m5, m6, m7, _⟩ := ih.two c
          have q : putF (d + 1) sh n k v = halv (putF d sh s.n k v).1 ⟨false, insAt p.keys i (putF d sh s.n k v).2.2.1, [], ins2 p.kids i (putF d sh s.n k v).2.1 (putF d sh s.n k v).2.2.2⟩ := by
            simp only [putF, h1, l, ← hi, gd]
            rw [if_neg (by simp), if_neg c]
          have num := m2.num
          have num2 := m3.num
          have iu2 := iu.2 c
          rw [q]
          generalize putF d sh s.n k v = Q at *
          obtain ⟨sh', a, x, b⟩ := Q
          simp only at *
          subst et
          simp only [List.length_append] at num num2
          have lo : 0 < i → ∀ y ∈ putL s.L k v, leS (kAt p.keys (i - 1)) y.1 = true := fun h0 y hy => by
            rcases putL_mem hy with q | q
            · rw [q]; show leS _ k = true; exact pl_le (by omega)
            · exact bt.lo i s hsi h0 y q
          have up : i < p.keys.length → ∀ y ∈ putL s.L k v, ltS y.1 (kAt p.keys i) = true := fun h0 y hy => by
            rcases putL_mem hy with q | q
            · rw [q]; show ltS k _ = true; exact pl_gt rs (by omega) h0
            · exact bt.hi i s hsi h0 y q
          rw [m1] at lo up
          have b2 := bt.ins (Q := Tr (sh ++ t) d) (fun _ _ _ q => q.app t) (i := i) (sa := ⟨a, M1, g1⟩) (sb := ⟨b, M2, g2⟩) (x := x) (by omega) ⟨m2, m2.ne⟩ ⟨m3, m3.ne⟩
            (fun h0 y hy => lo h0 y (by simp only at hy; simp [hy])) m4 m5 (fun h0 y hy => up h0 y (by simp only at hy; simp [hy]))
          have kz : Kz (insAt p.keys i x) := fun j hj => by
            rw [insAt_len (by omega)] at hj
            rw [kAt_ins (by omega)]
            by_cases c1 : j < i
            · rw [if_pos c1]; exact z j (by omega)
            · rw [if_neg c1]
              by_cases c2 : j = i
              · rw [if_pos c2]; exact m6
              · rw [if_neg c2]; exact z _ (by omega)
          have gg := good_bt b2 kz
          rw [map_ins, ← e1] at gg
          refine halv_uf kz (by rw [ins2_len (by omega), insAt_len (by omega)]; omega) (by rw [insAt_len (by omega)]; omega) (fun y hy => ?_) (ins_bytes ub (by omega) (by omega) (by omega) (by omega) (by omega) m6.2) gg (fun y hy => ?_)
          · rcases mem_ins2 hy with q | q | q
            · omega
            · omega
            · have := kb y q; omega
          · rcases mem_ins2 hy with q | q | q
            · rw [q]; exact iu.1
            · rw [q]; exact iu2
            · exact (uk y q).app t

end Go.Proofs.Ythdjghmipepppaa

namespace Go.Proofs.Ythdjghmipepppaa
open Go.RowKit
set_option linter.unusedVariables false
set_option linter.unusedSimpArgs false

/-- A list changed item by item, as one walks along it. -/
def chg (k v : ByteArray) : Bool → List It → List It
  | d, [] => if d then [] else [(k, v)]
  | d, x :: l => (if !d && leS k x.1 then [(k, v)] else []) ++ ((if x.1 = k then [] else [x]) ++ chg k v (d || leS k x.1) l)
theorem chg_done {k v : ByteArray} : ∀ l : List It, chg k v true l = l.filter (fun x => decide (x.1 ≠ k))
  | [] => rfl
  | x :: l => by
    simp only [chg, Bool.not_true, Bool.false_and, Bool.true_or, chg_done l]
    by_cases c : x.1 = k
    · simp [c]
    · simp [c]
theorem filt_ne {l : List It} (h : Srt l) (k : ByteArray) : l.filter (fun x => decide (x.1 ≠ k)) = dropL l k := by
  unfold dropL
  induction l with
  | nil => rfl
  | cons x l ih =>
    unfold Srt at h
    rw [List.pairwise_cons] at h
    have ih := ih h.2
    cases a : ltS x.1 k with
    | true =>
      have n1 : x.1 ≠ k := ltS_ne a
      simp [a, n1, ltS_asym a] at ih ⊢
      exact ih
    | false =>
      have none1 : l.filter (fun x => ltS x.1 k) = [] := filt_none (fun y hy => by
        have q := h.1 y hy
        cases e : ltS y.1 k with
        | false => rfl
        | true => rw [ltS_trans q e] at a; cases a)
      rw [none1] at ih
      by_cases c : x.1 = k
      · simp [c, ltS_irrefl, none1] at ih ⊢
        exact ih
      · have b : ltS k x.1 = true := by
          cases e : ltS k x.1 with
          | true => rfl
          | false => exact absurd (ltS_total a e) c
        simp [a, b, c, none1] at ih ⊢
        exact ih
theorem chg_drop {l : List It} (h : Srt l) (k v : ByteArray) : chg k v true l = dropL l k := by rw [chg_done, filt_ne h]
theorem chg_put {k v : ByteArray} : ∀ {l : List It}, Srt l → chg k v false l = putL l k v
  | [], _ => by simp [chg, putL]
  | x :: l, h => by
    unfold Srt at h
    rw [List.pairwise_cons] at h
    cases a : ltS x.1 k with
    | true =>
      have n1 : x.1 ≠ k := ltS_ne a
      have n2 : leS k x.1 = false := by rw [ltS_leS, a]; rfl
      simp only [chg, n2, Bool.not_false, Bool.true_and, Bool.false_or]
      rw [chg_put h.2]
      unfold putL
      simp [a, n1, ltS_asym a]
    | false =>
      have n2 : leS k x.1 = true := not_leS a
      simp only [chg, n2, Bool.not_false, Bool.true_and, Bool.false_or, if_true]
      rw [chg_done, filt_ne h.2]
      have none1 : l.filter (fun x => ltS x.1 k) = [] := filt_none (fun y hy => by
        have q := h.1 y hy
        cases e : ltS y.1 k with
        | false => rfl
        | true => rw [ltS_trans q e] at a; cases a)
      unfold putL dropL
      by_cases c : x.1 = k
      · simp [c, ltS_irrefl, none1]
      · have b : ltS k x.1 = true := by
          cases e : ltS k x.1 with
          | true => rfl
          | false => exact absurd (ltS_total a e) c
        simp [a, b, c, none1]
/-- Walked along up to i, one is so far. -/
def chgT (k v : ByteArray) (d : Bool) (l : List It) : List It × Bool :=
  l.foldl (fun (s : List It × Bool) x => (s.1 ++ ((if !s.2 && leS k x.1 then [(k, v)] else []) ++ (if x.1 = k then [] else [x])), s.2 || leS k x.1)) ([], d)
theorem chgT_all (k v : ByteArray) : ∀ (l : List It) (d : Bool) (m : List It),
    (l.foldl (fun (s : List It × Bool) x => (s.1 ++ ((if !s.2 && leS k x.1 then [(k, v)] else []) ++ (if x.1 = k then [] else [x])), s.2 || leS k x.1)) (m, d)).1 ++ (if (l.foldl (fun (s : List It × Bool) x => (s.1 ++ ((if !s.2 && leS k x.1 then [(k, v)] else []) ++ (if x.1 = k then [] else [x])), s.2 || leS k x.1)) (m, d)).2 then [] else [(k, v)]) = m ++ chg k v d l
  | [], d, m => by simp [chg]
  | x :: l, d, m => by
    rw [List.foldl_cons, chgT_all k v l]
    simp only [chg, List.append_assoc]
theorem chgT_ok (k v : ByteArray) (l : List It) (d : Bool) : (chgT k v d l).1 ++ (if (chgT k v d l).2 then [] else [(k, v)]) = chg k v d l := by
  unfold chgT
  rw [chgT_all k v l d []]
  rfl

/-- A range: from a key on, ahead of another (none: to the end). -/
def inR (a b : ByteArray) (x : It) : Bool := leS a x.1 && (decide (b = ByteArray.empty) || ltS x.1 b)
def rng (L : List It) (a b : ByteArray) : List It := L.filter (inR a b)
theorem rng_all (L : List It) : rng L ByteArray.empty ByteArray.empty = L := by
  unfold rng
  refine filt_all (fun x hx => ?_)
  unfold inR
  have e : leS ByteArray.empty x.1 = true := by
    refine not_leS ?_
    unfold ltS
    have : ByteArray.empty.toList = [] := by rw [Lib.toList_data]; rfl
    rw [this]
    cases x.1.toList <;> rfl
  rw [e]; simp
/-- A range cut in two. -/
theorem rng_cut {L : List It} (h : Srt L) {a m b : ByteArray} (h1 : leS a m = true) (h2 : ltS m b = true) (h3 : m ≠ ByteArray.empty) (h4 : b ≠ ByteArray.empty) : rng L a m ++ rng L m b = rng L a b := by
  unfold rng
  have e : ∀ x : It, inR a m x = (leS a x.1 && ltS x.1 m) := fun x => by unfold inR; rw [decide_eq_false h3]; simp
  have e2 : ∀ c : ByteArray, ∀ x : It, inR c b x = (leS c x.1 && ltS x.1 b) := fun c x => by unfold inR; rw [decide_eq_false h4]; simp
  simp only [funext e, funext (e2 m), funext (e2 a)]
  induction L with
  | nil => rfl
  | cons x L ih =>
    unfold Srt at h
    rw [List.pairwise_cons] at h
    have ih := ih h.2
    cases p : ltS x.1 m with
    | true =>
      have q1 : leS m x.1 = false := by rw [ltS_leS, p]; rfl
      have q2 := ltS_trans p h2
      cases r : leS a x.1 <;> simp [p, q1, q2, r, ih]
    | false =>
      have q1 : leS m x.1 = true := not_leS p
      have q2 : leS a x.1 = true := leS_trans h1 q1
      have none1 : L.filter (fun x => leS a x.1 && ltS x.1 m) = [] := filt_none (fun y hy => by
        have q := h.1 y hy
        cases e : ltS y.1 m with
        | false => simp
        | true => rw [ltS_trans q e] at p; cases p)
      rw [none1, List.nil_append] at ih
      cases r : ltS x.1 b <;> simp [p, q1, q2, r, none1, ih]

end Go.Proofs.Ythdjghmipepppaa

namespace Go.Proofs.Ythdjghmipepppaa
open Go.RowKit
set_option linter.unusedVariables false
set_option linter.unusedSimpArgs false

/-- Behind so many changes. -/
structure Stt (sh : List Pg) (root : Nat) (L : List It) (r f a : Nat) : Prop where
  rt : Rt sh root L r f
  pot : 10 * (r - 2) + f ≤ a
  len : L.length ≤ a
  size : sh.length ≤ 60 * a
theorem Stt.deep {sh : List Pg} {root : Nat} {L : List It} {r f a : Nat} (h : Stt sh root L r f a) (ha : a ≤ 120) : r ≤ 14 := by
  have := h.pot
  omega
theorem Stt.start : Stt [] 0 [] 0 0 0 := ⟨⟨fun _ => rfl, fun q => absurd rfl q⟩, by omega, by simp, by simp⟩
theorem Stt.skip {sh : List Pg} {root : Nat} {L : List It} {r f a : Nat} (h : Stt sh root L r f a) : Stt sh root L r f (a + 1) := by
  have a1 := h.pot
  have a2 := h.len
  have a3 := h.size
  exact ⟨h.rt, by omega, by omega, by omega⟩
theorem Stt.put {sh : List Pg} {root : Nat} {L : List It} {r f a : Nat} {k v : ByteArray} (h : Stt sh root L r f a) (ha : a < 120) (hk : 1 ≤ k.size ∧ k.size ≤ 40) (hv : v.size ≤ 400) :
    ∃ r' f', Stt (putT r sh root k v).1 (putT r sh root k v).2 (putL L k v) r' f' (a + 1) ∧ (putT r sh root k v).2 ≠ 0 ∧ ∃ t, (putT r sh root k v).1 = sh ++ t := by
  have a1 := h.pot
  have a2 := h.len
  have a3 := h.size
  have dp := h.deep (by omega)
  obtain ⟨r', f', b1, b2, b3, b4, t, b5, b6⟩ := putT_ok (k := k) (v := v) h.rt hk hv (by omega) (by omega)
  have pl := putL_len L k v
  exact ⟨r', f', ⟨b1, by omega, by omega, by rw [b5, List.length_append]; omega⟩, b2, t, b5⟩
/-- The root that comes of what comes in the root's place. -/
def rootR (q : List Pg × Run) : List Pg × Nat :=
  if 1 < q.2.kids.length then ((halvR q.1 ⟨false, q.2.keys, [], q.2.kids⟩).1, (halvR q.1 ⟨false, q.2.keys, [], q.2.kids⟩).2.kids.getD 0 0) else (q.1, q.2.kids.getD 0 0)
theorem root_small {x : ByteArray} {a b : Nat} (hx : x.size ≤ 40) (ha : a < 2097152) (hb : b < 2097152) : (encP ⟨false, [x], [], [a, b]⟩).length ≤ 900 := by
  rw [branch_len (by simp)]
  have x1 := encK_41 [x] (fun s hs => by simp at hs; rw [hs]; exact hx)
  have x2 := encN_3 [a, b] (fun y hy => by simp at hy; omega)
  simp only [List.length_cons, List.length_nil] at x1 x2
  omega
theorem rootR_two {sh : List Pg} {x : ByteArray} {a b : Nat} (hx : x.size ≤ 40) (ha : a < 2097152) (hb : b < 2097152) : rootR (sh, ⟨[x], [a, b]⟩) = (sh ++ [⟨false, [x], [], [a, b]⟩], sh.length + 1) := by
  unfold rootR halvR
  rw [if_pos (by simp)]
  simp only
  rw [if_pos (root_small hx ha hb)]
  rfl
theorem rootR_one {sh : List Pg} {a : Nat} {ks : List ByteArray} : rootR (sh, ⟨ks, [a]⟩) = (sh, a) := by unfold rootR; rw [if_neg (by simp)]; rfl
theorem rootR_none {sh : List Pg} {ks : List ByteArray} : rootR (sh, ⟨ks, []⟩) = (sh, 0) := by unfold rootR; rw [if_neg (by simp)]; rfl
/-- Put by the way down: just putT. -/
def putC (r : Nat) (sh : List Pg) (root : Nat) (k v : ByteArray) : List Pg × Nat :=
  if root = 0 then rootR (halvR sh (putP ⟨true, [], [], []⟩ k v)) else rootR (putQ r sh root k v)
theorem putC_is {sh : List Pg} {root : Nat} {L : List It} {r f : Nat} {k v : ByteArray} (h : Rt sh root L r f) (hk : 1 ≤ k.size ∧ k.size ≤ 40) (hv : v.size ≤ 400) (hL : L.length ≤ 126) (hs : sh.length + 2 * r < 2000000) : putC r sh root k v = putT r sh root k v := by
  unfold putC putT
  by_cases c : root = 0
  · rw [if_pos c, if_pos c]
    have e : putP ⟨true, [], [], []⟩ k v = ⟨true, [k], [v], []⟩ := rfl
    have q : (encP ⟨true, [k], [v], []⟩).length ≤ 900 := by
      rw [encP_leaf_len, hd2 (by simp)]
      have := item_443 hk.2 hv
      simp only [szs, sumL]
      omega
    rw [e]
    unfold halvR
    rw [if_pos q, rootR_one]
  · rw [if_neg c, if_neg c, putQ_is k v r sh root L f (h.some c)]
    have P := put_ok k v hk hv r sh root L f (h.some c) hL hs
    obtain ⟨t, et, tl⟩ := P.grow
    unfold runOf
    by_cases d : (putF r sh root k v).2.2.2 = 0
    · rw [if_pos d, if_pos d, rootR_one]
    · rw [if_neg d, if_neg d]
      obtain ⟨L1, L2, f1, f2, b1, b2, b3, b4, b5, b6, b7, b8⟩ := P.two d
      have n1 := b2.num
      have n2 := b3.num
      rw [et, List.length_append] at n1 n2
      rw [rootR_two b6.2 (by omega) (by omega)]
def dropT (r : Nat) (sh : List Pg) (root : Nat) (k : ByteArray) : List Pg × Nat := rootR (dropQ r sh root k)
theorem dropT_ok {sh : List Pg} {root : Nat} {L : List It} {r f : Nat} {k : ByteArray} (h : Rt sh root L r f) (hx : ∃ x ∈ L, x.1 = k) (hL : L.length ≤ 126) (hs : sh.length + 2 * r < 2000000) :
    ∃ r' f', Rt (dropT r sh root k).1 (dropT r sh root k).2 (dropL L k) r' f' ∧ 10 * (r' - 2) + f' ≤ 10 * (r - 2) + f + 1 ∧ r' ≤ r + 1 ∧ ∃ t, (dropT r sh root k).1 = sh ++ t ∧ t.length ≤ 2 * r + 1 := by
  have c : root ≠ 0 := fun c => by obtain ⟨x, hx, _⟩ := hx; rw [h.none c] at hx; cases hx
  have tr := h.some c
  have D := drop_ok k r sh root L f tr hx (by omega) hs
  unfold dropT
  obtain ⟨t, et, tl⟩ := D.grow
  have cs := D.cs
  generalize eq : dropQ r sh root k = Q at *
  obtain ⟨sh', run⟩ := Q
  simp only at et cs
  subst et
  obtain ⟨q, nl⟩ | ⟨a, f', q, tr', ff⟩ | ⟨x, a, b, M1, M2, g1, g2, q, m1, m2, m3, m4, m5, m6, m7, m8⟩ := cs
  · rw [q, rootR_none]
    exact ⟨r, 0, ⟨fun _ => nl, fun q => absurd rfl q⟩, by omega, by omega, t, rfl, by omega⟩
  · rw [q, rootR_one]
    exact ⟨r, f', ⟨fun q => by have := tr'.num; simp only at q; omega, fun _ => tr'⟩, by omega, by omega, t, rfl, by omega⟩
  · have n1 := m2.num
    have n2 := m3.num
    rw [List.length_append] at n1 n2
    rw [q, rootR_two m6.2 (by omega) (by omega)]
    have nr := new_root m2 m3 m4 m5 m6
    rw [← m1] at nr
    obtain ⟨p, hp, br, r2⟩ : ∃ p, pgAt sh root = some p ∧ p.leaf = false ∧ 2 ≤ r := by
      cases r with
      | zero => exact False.elim tr
      | succ r =>
        obtain ⟨p, hp, ⟨g, ne, ⟨l, e2, _⟩ | ⟨l, S, _, _, _, bt⟩⟩, h3⟩ := tr
        · exfalso
          have fd : fnd p.keys k = true := by
            obtain ⟨x, hx, rfl⟩ := hx
            rw [e2] at hx
            obtain ⟨i, hi, rfl⟩ := zipK_mem (goodB_leaf g l).1 hx
            exact (fnd_mem (leaf_keys g).1).2 (by show kAt p.keys i ∈ p.keys; rw [kAt_get hi]; exact List.getElem_mem hi)
          obtain ⟨z, _⟩ | ⟨z, _⟩ := dropQ_leaf hp g l (h3 l) fd r
          · rw [eq, q] at z; simp at z
          · rw [eq, q] at z; simp at z
        · refine ⟨p, hp, l, ?_⟩
          cases r with
          | zero =>
            obtain ⟨s, hs⟩ : ∃ s, S[0]? = some s := ⟨_, List.getElem?_eq_getElem (by have := bt.len; omega)⟩
            exact False.elim (bt.ok 0 s hs).1
          | succ r => omega
    have := m8 p hp br
    exact ⟨r + 1, g1 + g2, ⟨fun q => by simp at q, fun _ => nr⟩, by omega, by omega, t ++ [_], by simp only; rw [List.append_assoc], by simp; omega⟩
theorem Stt.drop {sh : List Pg} {root : Nat} {L : List It} {r f a : Nat} {k : ByteArray} (h : Stt sh root L r f a) (ha : a < 120) (hx : ∃ x ∈ L, x.1 = k) :
    ∃ r' f', Stt (dropT r sh root k).1 (dropT r sh root k).2 (dropL L k) r' f' (a + 1) ∧ ∃ t, (dropT r sh root k).1 = sh ++ t := by
  have a1 := h.pot
  have a2 := h.len
  have a3 := h.size
  have dp := h.deep (by omega)
  obtain ⟨r', f', b1, b2, b3, t, b4, b5⟩ := dropT_ok h.rt hx (by omega) (by omega)
  have pl := dropL_len L k
  exact ⟨r', f', ⟨b1, by omega, by omega, by rw [b4, List.length_append]; omega⟩, t, b4⟩
/-- Where keys are only put in: all leaves are as deep as the tree. -/
structure Ust (sh : List Pg) (root : Nat) (L : List It) (d f a : Nat) : Prop where
  st : Stt sh root L d f a
  uf : root ≠ 0 → Uf sh d root
  nil : root = 0 → d = 0
theorem Ust.put {sh : List Pg} {root : Nat} {L : List It} {d f a : Nat} {k v : ByteArray} (h : Ust sh root L d f a) (ha : a < 120) (hk : 1 ≤ k.size ∧ k.size ≤ 40) (hv : v.size ≤ 400) :
    ∃ d' f', Ust (putT d sh root k v).1 (putT d sh root k v).2 (putL L k v) d' f' (a + 1) ∧ (putT d sh root k v).2 ≠ 0 ∧ ∃ t, (putT d sh root k v).1 = sh ++ t := by
  have a1 := h.st.pot
  have a2 := h.st.len
  have a3 := h.st.size
  have dp := h.st.deep (by omega)
  have pl := putL_len L k v
  by_cases c : root = 0
  · obtain ⟨r', f', b1, b2, b3, b4, t, b5, b6⟩ := putT_ok (k := k) (v := v) h.st.rt hk hv (by omega) (by omega)
    have d0 := h.nil c
    subst d0
    have tr := b1.some b2
    have r1 : r' = 1 := by
      cases r' with
      | zero => exact False.elim tr
      | succ r' => omega
    subst r1
    refine ⟨1, f', ⟨⟨b1, by omega, by omega, by rw [b5, List.length_append]; omega⟩, fun _ => ?_, fun q => absurd q b2⟩, b2, t, b5⟩
    obtain ⟨p, hp, ⟨g, ne, ⟨l, _⟩ | ⟨_, S, _, _, _, bt⟩⟩, _⟩ := tr
    · exact ⟨p, hp, Or.inl ⟨rfl, l⟩⟩
    · obtain ⟨s, hs⟩ : ∃ s, S[0]? = some s := ⟨_, List.getElem?_eq_getElem (by have := bt.len; omega)⟩
      exact False.elim (bt.ok 0 s hs).1
  · have tr := h.st.rt.some c
    have uf := h.uf c
    have P := put_ok k v hk hv d sh root L f tr (by omega) (by omega)
    have U := put_uf k v hk hv d sh root L f tr uf (by omega) (by omega)
    obtain ⟨t, et, tl⟩ := P.grow
    unfold putT
    rw [if_neg c]
    by_cases e : (putF d sh root k v).2.2.2 = 0
    · rw [if_pos e]
      obtain ⟨f', t1, t2⟩ := P.one e
      have num := t1.num
      exact ⟨d, f', ⟨⟨⟨fun q => by simp only at q; omega, fun _ => t1⟩, by omega, by omega, by simp only; rw [et, List.length_append]; omega⟩, fun _ => U.1, fun q => by simp only at q; omega⟩, by simp only; omega, t, et⟩
    · rw [if_neg e]
      obtain ⟨L1, L2, f1, f2, b1, b2, b3, b4, b5, b6, b7, b8⟩ := P.two e
      have nr := new_root b2 b3 b4 b5 b6
      rw [← b1] at nr
      have ub := U.2 e
      have small : (encP ⟨false, [(putF d sh root k v).2.2.1], [], [(putF d sh root k v).2.1, (putF d sh root k v).2.2.2]⟩).length ≤ 900 := by
        rw [branch_len (by simp)]
        have n1 := b2.num
        have n2 := b3.num
        rw [et, List.length_append] at n1 n2
        have x1 := encK_41 [(putF d sh root k v).2.2.1] (fun s hs => by simp at hs; rw [hs]; exact b6.2)
        have x2 := encN_3 [(putF d sh root k v).2.1, (putF d sh root k v).2.2.2] (fun y hy => by simp at hy; omega)
        simp only [List.length_cons, List.length_nil] at x1 x2
        omega
      have unr : Uf ((putF d sh root k v).1 ++ [⟨false, [(putF d sh root k v).2.2.1], [], [(putF d sh root k v).2.1, (putF d sh root k v).2.2.2]⟩]) (d + 1) ((putF d sh root k v).1.length + 1) :=
        ⟨_, pgAt_new _ _ [], Or.inr ⟨rfl, small, fun y hy => by
          simp at hy
          rcases hy with q | q
          · rw [q]; exact U.1.app _
          · rw [q]; exact ub.app _⟩⟩
      have pot : 10 * (d + 1 - 2) + (f1 + f2) ≤ a + 1 := by
        obtain ⟨p, hp, q⟩ : ∃ p, pgAt sh root = some p ∧ ((d = 1 ∧ p.leaf = true) ∨ p.leaf = false) := by
          cases d with
          | zero => exact False.elim uf
          | succ d =>
            obtain ⟨p, hp, ⟨q, l⟩ | ⟨l, _⟩⟩ := uf
            · exact ⟨p, hp, Or.inl ⟨by omega, l⟩⟩
            · exact ⟨p, hp, Or.inr l⟩
        rcases q with ⟨q, _⟩ | q
        · omega
        · have := b8 p hp q
          omega
      exact ⟨d + 1, f1 + f2, ⟨⟨⟨fun q => by simp at q, fun _ => nr⟩, pot, by omega, by simp only [List.length_append, List.length_cons, List.length_nil]; rw [et, List.length_append]; omega⟩, fun _ => unr, fun q => by simp at q⟩, by simp, t ++ [_], by simp only; rw [et, List.append_assoc]⟩

end Go.Proofs.Ythdjghmipepppaa

