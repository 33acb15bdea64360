/- Parts of the proof. -/
import Derived.Test.YteknljnjcoehoaaGreatDoorPq
namespace Go.Proofs.YteknljnjcoehoaaGreatDoor
open Go.RowKit
set_option linter.unusedVariables false
set_option linter.unusedSimpArgs false
theorem cnt_mem {loc:List ByteArray} {nm:ByteArray} (h:0<cntK loc nm):nm ∈ loc:=by
 unfold cntK at h
 obtain ⟨x,h1,h2⟩:=List.countP_pos_iff.1 h
 rw [← eqB_eqX h2]
 exact h1
mutual
theorem look_mem (rn loc:List ByteArray) (x:ByteArray):∀ t:Tr,x ∈ lookT rn loc t→x ∈ rn
 | .nd op nm kind n a kids=>fun h=>by
  rw [lookT,List.mem_append] at h
  rcases h with h | h
  ·cases q:(eqB op ⟨#[110,97,109,101]⟩ && decide (0<cntK rn nm) && decide (cntK loc nm=0)) with
   | false=>rw [q] at h;simp at h
   | true =>
    rw [q] at h
    have e:x=nm:=by simpa using h
    subst e
    simp only [Bool.and_eq_true,decide_eq_true_eq] at q
    exact cnt_mem q.1.2
  ·exact lookL_mem rn loc x _ _ _ kids h
theorem lookL_mem (rn loc:List ByteArray) (x:ByteArray) (s:Bool) (nm:ByteArray) (first:Bool):∀ l:List Tr,x ∈ lookL rn loc s nm first l→x ∈ rn
 | []=>fun h=>by rw [lookL] at h;simp at h
 | t :: ts=>fun h=>by
  rw [lookL,List.mem_append] at h
  rcases h with h | h
  ·exact look_mem rn _ x t h
  ·exact lookL_mem rn loc x s nm false ts h
end
theorem namR_mem {ks:List Tr} {nm x:ByteArray} (h:x ∈ namR ks nm):x ∈ rnF ks:=by
 unfold namR at h
 split at h
 ·simp at h
 ·rename_i d _
  rw [mem_srtN] at h
  unfold lookAll at h
  obtain ⟨t,_,ht⟩:=List.mem_flatMap.1 h
  exact look_mem _ _ x t ht
theorem dup_nodup:∀ (ds pre:List Tr),dupF pre ds=none→(∀ k ∈ pre,∀ d ∈ ds,k.name≠d.name)∧(ds.map Tr.name).Nodup
 | [],pre,_=>⟨fun k _ d hd=>by simp at hd,by simp⟩
 | d :: ds,pre,h=>by
  rw [dupF] at h
  split at h
  ·cases h
  ·rename_i q
   obtain ⟨h1,h2⟩:=dup_nodup ds _ h
   have e:∀ k ∈ pre,k.name≠d.name:=fun k hk e=>q (Or.inl (by
    unfold decN
    exact List.countP_pos_iff.2 ⟨k,hk,by show eqB k.name d.name=true;rw [e];exact eqB_self _⟩))
   refine ⟨fun k hk d' hd'=>?_,?_⟩
   ·rcases List.mem_cons.1 hd' with rfl | hd'
    ·exact e k hk
    ·exact h1 k (List.mem_append.2 (Or.inl hk)) d' hd'
   ·rw [List.map_cons,List.nodup_cons]
    refine ⟨fun hm=>?_,h2⟩
    obtain ⟨k,hk,ek⟩:=List.mem_map.1 hm
    exact h1 d (List.mem_append.2 (Or.inr (List.mem_singleton.2 rfl))) k hk ek.symm
theorem rnF_nodup {ks:List Tr} (h:ckF ks=none):(rnF ks).Nodup:=by
 have h2:dupF [] ks=none:=by
  unfold ckF at h
  split at h
  ·cases h
  ·rename_i q;exact q
 have n:=(dup_nodup ks [] h2).2
 unfold rnF fldF
 rw [List.map_map]
 exact List.Nodup.sublist (List.Sublist.map _ (List.filter_sublist ..)) n
structure Srt (ks:List Tr) (W:List Ln) (acc:List ByteArray):Prop where
 nm:∀ l ∈ W,l.2=namR ks l.1
 al:∀ x ∈ rnF ks,x ∈ acc∨∃ l ∈ W,l.1=x
 nd:(acc ++ W.map Prod.fst).Nodup
 le:acc.length+W.length=(rnF ks).length
 ah:∀ (i:Nat) (r x:ByteArray),acc[i]?=some r→x ∈ namR ks r→∃ j:Nat,j<i∧acc[j]?=some x
theorem Srt.go {ks:List Tr}:∀ (f:Nat) (W:List Ln) (acc l:List ByteArray),W.length=f→Srt ks W acc→sortF f W acc=some l→Srt ks [] l
 | 0,W,acc,l,hf,h,hl=>by
  obtain rfl:W=[]:=List.length_eq_zero_iff.1 hf
  rw [sortF] at hl
  injection hl with hl
  subst hl
  exact h
 | f+1,W,acc,l,hf,h,hl=>by
  rw [sortF] at hl
  cases hx:W.findIdx? (fun l=>freeW l W) with
  | none=>rw [hx] at hl;cases hl
  | some i =>
   rw [hx] at hl
   have ⟨qi,hfr,_⟩:=List.findIdx?_eq_some_iff_getElem.1 hx
   have hg:W[i]?=some W[i]:=List.getElem?_eq_getElem qi
   have hl':sortF f (W.eraseIdx i) (acc ++ [W[i].1])=some l:=by
    have e:sortF f (W.eraseIdx i) (acc ++ [((W[i]?).getD (⟨#[]⟩,[])).1])=some l:=hl
    rw [hg] at e
    exact e
   have hm:W[i] ∈ W:=List.getElem_mem qi
   have pm:(W[i] :: W.eraseIdx i).Perm W:=by
    have e:W=W.take i ++ W[i] :: W.drop (i+1):=by rw [← List.drop_eq_getElem_cons qi,List.take_append_drop]
    have k:(W.take i ++ W[i] :: W.drop (i+1)).Perm (W[i] :: (W.take i ++ W.drop (i+1))):=List.perm_middle
    rw [List.eraseIdx_eq_take_drop_succ]
    rw [← e] at k
    exact k.symm
   refine Srt.go f _ _ l (by rw [List.length_eraseIdx_of_lt qi];omega) ⟨?_,?_,?_,?_,?_⟩ hl'
   ·exact fun l hl=>h.nm l (pm.mem_iff.1 (List.mem_cons_of_mem _ hl))
   ·intro x hx
    rcases h.al x hx with h1 | ⟨l,h1,h2⟩
    ·exact Or.inl (List.mem_append.2 (Or.inl h1))
    ·rcases List.mem_cons.1 (pm.mem_iff.2 h1) with e | e
     ·exact Or.inl (List.mem_append.2 (Or.inr (List.mem_singleton.2 (by rw [← h2,e]))))
     ·exact Or.inr ⟨l,e,h2⟩
   ·refine List.Perm.nodup ?_ h.nd
    rw [List.append_assoc]
    exact List.Perm.append_left acc ((pm.map Prod.fst).symm)
   ·rw [List.length_append,List.length_eraseIdx_of_lt qi]
    have:=h.le
    show acc.length+1+_=_
    omega
   ·intro k r x hk hx
    by_cases c:k<acc.length
    ·rw [List.getElem?_append_left c] at hk
     obtain ⟨j,j1,j2⟩:=h.ah k r x hk hx
     exact ⟨j,j1,by rw [List.getElem?_append_left (by omega)];exact j2⟩
    ·rw [List.getElem?_append_right (by omega)] at hk
     have k0:k=acc.length:=by
      have:=(List.getElem?_eq_some_iff.1 hk).1
      simp at this
      omega
     subst k0
     simp at hk
     subst hk
     rw [← h.nm _ hm] at hx
     have nw:∀ l ∈ W,l.1≠x:=by
      intro l hlW e
      unfold freeW at hfr
      simp only [Bool.not_eq_true',List.any_eq_false] at hfr
      exact hfr l hlW (by rw [e];exact (hasN_iff _ _).2 hx)
     have hr:x ∈ rnF ks:=namR_mem (nm:=W[i].1) (by rw [← h.nm _ hm];exact hx)
     rcases h.al x hr with h1 | ⟨l,h1,h2⟩
     ·obtain ⟨j,j1,j2⟩:=List.mem_iff_getElem.1 h1
      exact ⟨j,j1,by rw [List.getElem?_append_left j1,List.getElem?_eq_getElem j1,j2]⟩
     ·exact absurd h2 (nw l h1)
theorem sort_srt {ks : List Tr} {l : List ByteArray} (h : sortR ks = some l) : l.length = (rnF ks).length ∧ l.Nodup ∧ ∀ (i : Nat) (r x : ByteArray), l[i]? = some r → x ∈ namR ks r → ∃ j : Nat, j < i ∧ l[j]? = some x := by
  unfold sortR at h
  cases hc : ckF ks with
  | some a => rw [hc] at h; cases h
  | none =>
    rw [hc] at h
    have h : sortF (leansF ks).length (leansF ks) [] = some l := h
    have e1 : (leansF ks).map Prod.fst = rnF ks := by unfold leansF; rw [List.map_map]; exact List.map_id' _
    have s := Srt.go _ _ _ _ rfl (show Srt ks (leansF ks) [] from ⟨fun l hl => by
        unfold leansF at hl
        obtain ⟨r, _, rfl⟩ := List.mem_map.1 hl
        rfl, fun x hx => Or.inr ⟨(x, namR ks x), by unfold leansF; exact List.mem_map.2 ⟨x, hx, rfl⟩, rfl⟩, by rw [List.nil_append, e1]; exact rnF_nodup hc, by unfold leansF; simp, fun i r x hi => by simp at hi⟩) h
    exact ⟨by have := s.le; simpa using this, by have := s.nd; simpa using this, s.ah⟩
theorem rnF_len (ks:List Tr):(rnF ks).length=(fldF ⟨#[114,117,108,101]⟩ ks).length:=by unfold rnF;rw [List.length_map]
def befN (l:List ByteArray) (x:ByteArray) (j:Nat):Bool:=(l.take j).any fun y=>eqB y x
theorem befN_zero (l:List ByteArray) (x:ByteArray):befN l x 0=false:=rfl
theorem befN_step {l:List ByteArray} {x y:ByteArray} {j:Nat} (h:l[j]?=some y):befN l x (j+1)=(befN l x j || eqB y x):=by
 unfold befN
 rw [List.take_add_one,h,List.any_append]
 simp
theorem befN_of {l:List ByteArray} {x:ByteArray} {i j:Nat} (h:j<i) (hj:l[j]?=some x):befN l x i=true:=by
 unfold befN
 rw [List.any_eq_true]
 exact ⟨x,List.mem_iff_getElem?.2 ⟨j,by rw [List.getElem?_take,if_pos h];exact hj⟩,eqB_self x⟩
theorem nd_ne {l:List ByteArray} (h:l.Nodup) {i j:Nat} {x y:ByteArray} (hj:l[j]?=some y) (hi:l[i]?=some x) (q:j<i):eqB y x=false:=by
 cases e:eqB y x with
 | false=>rfl
 | true =>
  have e:=eqB_eqX e
  subst e
  obtain ⟨p1,p2⟩:=List.getElem?_eq_some_iff.1 hi
  obtain ⟨p3,p4⟩:=List.getElem?_eq_some_iff.1 hj
  have n:=List.pairwise_iff_getElem.1 h j i p3 p1 q
  exact absurd (by rw [p2,p4]) n
end Go.Proofs.YteknljnjcoehoaaGreatDoor
