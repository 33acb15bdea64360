/- Parts of the proof. -/
import Derived.Test.YteknljnjcoehoaaGreatDoorKQ
namespace Go.Proofs.YteknljnjcoehoaaGreatDoor
open Go.RowKit
set_option linter.unusedVariables false
set_option linter.unusedSimpArgs false
def rnF (ks:List Tr):List ByteArray:=(fldF ⟨#[114,117,108,101]⟩ ks).map Prod.fst
mutual
def lookT (rn loc:List ByteArray):Tr→List ByteArray
 | .nd op nm kind n a kids=>(if eqB op ⟨#[110,97,109,101]⟩ && decide (0<cntK rn nm) && decide (cntK loc nm=0) then [nm] else []) ++ lookL rn loc (eqB op ⟨#[115,117,109]⟩) nm true kids
def lookL (rn loc:List ByteArray) (s:Bool) (nm:ByteArray) (first:Bool):List Tr→List ByteArray
 | []=>[]
 | t :: ts=>lookT rn (if s && !first then nm :: loc else loc) t ++ lookL rn loc s nm false ts
end
mutual
def nodT:Tr→Nat
 | .nd _ _ _ _ _ kids=>1+nodL kids
def nodL:List Tr→Nat
 | []=>0
 | t :: ts=>nodT t+nodL ts
end
theorem nodL_app:∀ a b:List Tr,nodL (a ++ b)=nodL a+nodL b
 | [],b=>by rw [nodL];simp
 | t :: a,b=>by rw [List.cons_append,nodL,nodL,nodL_app a b];omega
mutual
theorem look_len (rn loc:List ByteArray):∀ t:Tr,(lookT rn loc t).length≤nodT t
 | .nd op nm kind n a kids=>by
  rw [lookT,nodT,List.length_append]
  have:=lookL_len rn loc (eqB op ⟨#[115,117,109]⟩) nm true kids
  have h:∀ b:Bool,(if b=true then [nm] else ([]:List ByteArray)).length≤1:=fun b=>by cases b <;> simp
  have:=h (eqB op ⟨#[110,97,109,101]⟩ && decide (0<cntK rn nm) && decide (cntK loc nm=0))
  omega
theorem lookL_len (rn loc:List ByteArray) (s:Bool) (nm:ByteArray) (first:Bool):∀ l:List Tr,(lookL rn loc s nm first l).length≤nodL l
 | []=>by rw [lookL];simp
 | t :: ts=>by
  rw [lookL,nodL,List.length_append]
  have:=look_len rn (if s && !first then nm :: loc else loc) t
  have:=lookL_len rn loc s nm false ts
  omega
end
theorem nod_kid {t:Tr} {k:Tr} (h:k ∈ t.kids):nodT k<nodT t:=by
 obtain ⟨op,nm,kind,n,a,kids⟩:=t
 have h:k ∈ kids:=h
 rw [nodT]
 have:∀ l:List Tr,k ∈ l→nodT k≤nodL l:=by
  intro l
  induction l with
  | nil=>intro h;simp at h
  | cons x l ih =>
   intro h
   rw [nodL]
   rcases List.mem_cons.1 h with rfl | h
   ·omega
   ·have:=ih h;omega
 have:=this kids h
 omega
def Nb (A:Ax):Prop:=∀ s,(A s).2.ok=true→nodT (A s).1+(A s).2.l.length≤s.l.length
theorem tl1 {l:List Wo} (h:kw l≠0):l.tail.length+1=l.length:=by
 cases l with
 | nil=>exact absurd rfl h
 | cons x l=>rfl
theorem nx_is {s:Sp} {t:ByteArray} (h:s.is t=true):s.nx.l.length+1=s.l.length:=by
 unfold Sp.is at h
 simp only [Bool.and_eq_true,Bool.or_eq_true,beq_iff_eq] at h
 exact tl1 (by omega)
theorem nb_want {s:Sp} {t:ByteArray} (h:(s.want t).ok=true):(s.want t).l.length+1=s.l.length:=by
 unfold Sp.want at h ⊢
 split at h
 ·rename_i q;rw [if_pos q];exact nx_is q
 ·cases h
theorem nb_nm {s:Sp} (h:s.nm.2.ok=true):s.nm.2.l.length+1=s.l.length:=by
 unfold Sp.nm at h ⊢
 split at h
 ·rename_i q
  rw [if_pos q]
  simp only [Bool.and_eq_true,beq_iff_eq] at q
  exact tl1 (by omega)
 ·cases h
theorem nb_kd {s:Sp} (h:s.kd.2.ok=true):s.kd.2.l.length+1=s.l.length:=by
 unfold Sp.kd at h ⊢
 split at h
 ·rename_i q
  rw [if_pos q]
  simp only [Bool.and_eq_true,beq_iff_eq] at q
  exact tl1 (by omega)
 ·cases h
theorem nb_lit {s:Sp} (h:s.lit.2.ok=true):nodT s.lit.1+s.lit.2.l.length=s.l.length:=by
 unfold Sp.lit at h ⊢
 split at h
 ·rename_i q
  rw [if_pos q]
  have e:nodT (litV s.l)=1:=by
   unfold litV lit1
   split
   ·rfl
   split
   ·rfl
   split
   ·rfl
   split
   ·rfl
   split <;> rfl
  have z:s.nx.l.length+1=s.l.length:=by
   unfold Sp.islit at q
   simp only [Bool.and_eq_true,Bool.or_eq_true,decide_eq_true_eq] at q
   rcases q.2 with (q | q) | q
   ·exact tl1 (by omega)
   ·exact nx_is q
   ·exact nx_is q
  show nodT (litV s.l)+s.nx.l.length=_
  omega
 ·cases h
theorem nb_loop {B:Ax} (hB:Nb B) (hG:∀ s,(B s).2.ok=true→s.ok=true) (lv:Nat):∀ f t s,(loopX B lv f t s).2.ok=true→nodT (loopX B lv f t s).1+(loopX B lv f t s).2.l.length≤nodT t+s.l.length
 | 0,t,s,h=>Nat.le_refl _
 | f+1,t,s,h=>by
  unfold loopX at h ⊢
  split at h
  ·rename_i q
   rw [if_pos q]
   have q':=q
   unfold opAt at q'
   simp only [Bool.and_eq_true,Bool.or_eq_true,beq_iff_eq] at q'
   have z:s.nx.l.length+1=s.l.length:=tl1 (by omega)
   split at h
   ·rename_i q2
    rw [if_pos q2]
    have:=hB _ h
    show nodT (two _ _ t (B s.nx).1)+(B s.nx).2.l.length≤_
    rw [two,nodT,nodL,nodL,nodL]
    omega
   ·rename_i q2
    rw [if_neg q2]
    have k:=nb_loop hB hG lv f _ _ h
    have g:∀ f t s,(loopX B lv f t s).2.ok=true→s.ok=true:=by
     intro f
     induction f with
     | zero=>intro t s h;exact h
     | succ f ih =>
      intro t s h
      unfold loopX at h
      split at h
      ·rename_i q
       unfold opAt at q
       simp only [Bool.and_eq_true] at q
       exact q.1.1
      ·exact h
    have:=hB _ (g _ _ _ h)
    have e2:nodT (two (tw s.l) (aw s.l) t (B s.nx).1)=1+(nodT t+(nodT (B s.nx).1+0)):=by rw [two,nodT,nodL,nodL,nodL]
    omega
  ·rename_i q
   rw [if_neg q]
   exact Nat.le_refl _
theorem ok_row {m:Nat} {U:Ax} (hU:Go1 m U) (k:Nat):∀ s,(rowR U k s).2.ok=true→s.ok=true:=fun s h=>(go_row hU k s h).1
theorem nb_row {m:Nat} {U:Ax} (hU:Nb U) (hG:Go1 m U):∀ k,Nb (rowR U k)
 | 0=>hU
 | k+1=>fun s h=>by
  unfold rowR at h ⊢
  have a:=nb_loop (nb_row hU hG k) (ok_row hG k) _ _ _ _ h
  have b:=nb_row hU hG k s (go_loop (go_row hG k) _ _ _ _ h).1
  omega
theorem nb_prim {m:Nat} {E:Ax} (hE:Nb E) (hG:Go1 m E):Nb (primR E):=fun s h=>by
 unfold primR at h ⊢
 split at h
 ·rename_i q;rw [if_pos q];exact Nat.le_of_eq (nb_lit h)
 rename_i q;rw [if_neg q]
 have pr:∀ op:ByteArray,s.is op=true→(pairR E op s).2.ok=true→nodT (pairR E op s).1+(pairR E op s).2.l.length≤s.l.length:=by
  intro op q h
  have o2:=ok_want h
  have o1:=ok_want (hG _ o2).1
  have o0:=(hG _ o1).1
  have z:=nx_is q
  have w0:=nb_want o0
  have e1:=hE _ o1
  have w1:=nb_want (hG _ o2).1
  have e2:=hE _ o2
  have w2:=nb_want h
  show nodT (two _ _ _ _)+(Sp.want _ sShut).l.length≤_
  rw [two,nodT,nodL,nodL,nodL]
  omega
 split at h
 ·rename_i q;rw [if_pos q];exact pr _ q h
 rename_i q;rw [if_neg q]
 split at h
 ·rename_i q;rw [if_pos q];exact pr _ q h
 rename_i q;rw [if_neg q]
 split at h
 ·rename_i q;rw [if_pos q]
  have o1:=ok_want h
  have z:=nx_is q
  have e1:=hE _ o1
  have w1:=nb_want h
  show nodT (E s.nx).1+(Sp.want _ sShut).l.length≤_
  omega
 rename_i q;rw [if_neg q]
 split at h
 ·rename_i q;rw [if_pos q]
  have o1:=ok_want h
  have o0:=(hG _ o1).1
  have z:=nx_is q
  have w0:=nb_want o0
  have e1:=hE _ o1
  have w1:=nb_want h
  show nodT (one _ _ _ _)+(Sp.want _ sShut).l.length≤_
  rw [one,nodT,nodL,nodL]
  omega
 rename_i q;rw [if_neg q]
 split at h
 ·rename_i q;rw [if_pos q]
  have o1:=ok_want h
  have o0:=(hG _ o1).1
  have n0:=ok_want o0
  have z:=nx_is q
  have w9:=nb_want (ok_nm n0)
  have w8:=nb_nm n0
  have w0:=nb_want o0
  have e1:=hE _ o1
  have w1:=nb_want h
  show nodT (one _ _ _ _)+(Sp.want _ sShut).l.length≤_
  rw [one,nodT,nodL,nodL]
  omega
 rename_i q;rw [if_neg q]
 split at h
 ·rename_i q;rw [if_pos q]
  have o2:=ok_want h
  have i2:=(hG _ o2).1
  have o1:=ok_want i2
  have i1:=(hG _ o1).1
  have n0:=ok_want i1
  have z:=nx_is q
  have w9:=nb_want (ok_nm n0)
  have w8:=nb_nm n0
  have w0:=nb_want i1
  have e1:=hE _ o1
  have w1:=nb_want i2
  have e2:=hE _ o2
  have w2:=nb_want h
  show nodT (.nd _ _ _ _ _ [_,_])+(Sp.want _ sShut).l.length≤_
  rw [nodT,nodL,nodL,nodL]
  omega
 ·rename_i q;rw [if_neg q]
  have:=nb_nm h
  show nodT (.nd _ _ _ _ _ [])+s.nm.2.l.length≤_
  rw [nodT,nodL]
  omega
theorem nb_un {m:Nat} {U:Option Ax} {E:Ax} (hU:∀ V,U=some V→Nb V) (hE:Nb E) (hG:Go1 m E):Nb (unR U E):=fun s h=>by
 have tr:∀ op t:ByteArray,s.is t=true→(trnR U op s).2.ok=true→nodT (trnR U op s).1+(trnR U op s).2.l.length≤s.l.length:=by
  intro op t q h
  have z:=nx_is q
  unfold trnR at h ⊢
  cases U with
  | none=>cases h
  | some V =>
   have:=hU V rfl _ h
   show nodT (one _ _ _ _)+(V s.nx).2.l.length≤_
   rw [one,nodT,nodL,nodL]
   omega
 unfold unR at h ⊢
 split at h
 ·rename_i q;rw [if_pos q];exact tr _ _ q h
 rename_i q;rw [if_neg q]
 split at h
 ·rename_i q;rw [if_pos q];exact tr _ _ q h
 ·rename_i q;rw [if_neg q];exact nb_prim hE hG s h
theorem nb_ins {m:Nat} {U E:Ax} (hU:Nb U) (hE:Nb E) (gU:Go1 m U) (gE:Go1 m E):Nb (insR U E):=fun s h=>by
 unfold insR at h ⊢
 split at h
 ·rename_i q;rw [if_pos q]
  have i3:=(gE _ h).1
  have o2:=ok_want i3
  have i2:=(gE _ o2).1
  have o1:=ok_want i2
  have z:=nx_is q
  have e1:=hE _ o1
  have w1:=nb_want i2
  have e2:=hE _ o2
  have w2:=nb_want i3
  have e3:=hE _ h
  show nodT (.nd _ _ _ _ _ [_,_,_])+(E (Sp.want _ sElse)).2.l.length≤_
  rw [nodT,nodL,nodL,nodL,nodL]
  omega
 ·rename_i q;rw [if_neg q]
  exact nb_row hU gU 5 s h
theorem nb_ex {m:Nat} {R:Option (Ax × Ax)} (hR:∀ V,R=some V→(Nb V.1∧Nb V.2)∧Go1 m V.1∧Go1 m V.2):Nb (exR R):=fun s h=>by
 unfold exR at h ⊢
 split at h
 ·rename_i q;rw [if_pos q]
  cases R with
  | none=>cases h
  | some V=>exact nb_ins (hR V rfl).1.1 (hR V rfl).1.2 (hR V rfl).2.1 (hR V rfl).2.2 s h
 ·rename_i q
  exact absurd h q
theorem nb_rec:∀ n,Nb (recR n).1∧Nb (recR n).2
 | 0=>by
  have e:Nb (exR none):=nb_ex (m:=0) (fun V h=>by cases h)
  exact ⟨nb_un (fun V h=>by cases h) e (go_rec 0).2,e⟩
 | n+1=>by
  obtain ⟨h1,h2⟩:=nb_rec n
  obtain ⟨g1,g2⟩:=go_rec n
  have e:Nb (exR (some (recR n))):=nb_ex (m:=n+1) (fun V h=>by injection h with h;subst h;exact ⟨⟨h1,h2⟩,g1,g2.mono (Nat.le_succ _)⟩)
  exact ⟨nb_un (fun V h=>by injection h with h;subst h;exact h1) e (go_rec (n+1)).2,e⟩
theorem nb_rows:∀ f ks s,(rowsX f ks s).2.ok=true→ks.length≤32→nodL (rowsX f ks s).1+(rowsX f ks s).2.l.length≤nodL ks+s.l.length
 | 0,ks,s,h,hl=>Nat.le_refl _
 | f+1,ks,s,h,hl=>by
  unfold rowsX at h ⊢
  split at h
  ·rename_i q
   rw [if_pos q]
   split at h
   ·cases h
   ·rename_i q2
    rw [if_neg q2]
    have hl':(ks ++ [rowT (aw s.l) [s.lit.1,((s.lit.2.want sColon).lit).1]]).length≤32:=by rw [List.length_append];show ks.length+1≤32;omega
    have k:=nb_rows f _ _ h hl'
    have i4:=(go_rows f _ _ h hl').1
    have o3:=ok_want i4
    have i2:=(ok_lit o3).1
    have o1:=ok_want i2
    have w4:=nb_want i4
    have l3:=nb_lit o3
    have w2:=nb_want i2
    have l1:=nb_lit o1
    have e2:nodL (ks ++ [rowT (aw s.l) [s.lit.1,((s.lit.2.want sColon).lit).1]])=nodL ks+(1+(nodT s.lit.1+(nodT ((s.lit.2.want sColon).lit).1+0))+0):=by rw [nodL_app,nodL,nodL,rowT,nodT,nodL,nodL,nodL]
    show nodL (rowsX f (ks ++ [rowT (aw s.l) [s.lit.1,((s.lit.2.want sColon).lit).1]]) ((s.lit.2.want sColon).lit.2.want sComma)).1+(rowsX f (ks ++ [rowT (aw s.l) [s.lit.1,((s.lit.2.want sColon).lit).1]]) ((s.lit.2.want sColon).lit.2.want sComma)).2.l.length≤_
    omega
  ·rename_i q
   rw [if_neg q]
   exact Nat.le_refl _
theorem nb_decl {E:Ax} (hE:Nb E) (hG:Go1 40 E) (s:Sp) (h:(declX E s).2.ok=true):nodT (declX E s).1+(declX E s).2.l.length≤s.l.length:=by
 unfold declX at h ⊢
 split at h
 ·rename_i q;rw [if_pos q]
  have o2:=ok_want h
  have o1:=(ok_kd o2).1
  have z:=nx_is q
  have a:=nb_nm o1
  have b:=nb_kd o2
  have c:=nb_want h
  show nodT (.nd _ _ _ _ _ [])+(Sp.want _ sSemi).l.length≤_
  rw [nodT,nodL]
  omega
 rename_i q;rw [if_neg q]
 split at h
 ·rename_i q;rw [if_pos q]
  have o4:=ok_want h
  have i4:=(hG _ o4).1
  have o2:=ok_want i4
  have o1:=(ok_kd o2).1
  have z:=nx_is q
  have a:=nb_nm o1
  have b:=nb_kd o2
  have d:=nb_want i4
  have e:=hE _ o4
  have c:=nb_want h
  show nodT (.nd _ _ _ _ _ [_])+(Sp.want _ sSemi).l.length≤_
  rw [nodT,nodL,nodL]
  omega
 rename_i q;rw [if_neg q]
 split at h
 ·rename_i q;rw [if_pos q]
  have l:=ok_lit (ok_want h)
  have w:=ok_want l.1
  have t:(rowsX 33 [] (s.nx.nm.2.kd.2.kd.2.want sBrace)).2.ok=true∧(if (rowsX 33 [] (s.nx.nm.2.kd.2.kd.2.want sBrace)).2.ok && (rowsX 33 [] (s.nx.nm.2.kd.2.kd.2.want sBrace)).1.length==32 then (rowsX 33 [] (s.nx.nm.2.kd.2.kd.2.want sBrace)).2.lim else (rowsX 33 [] (s.nx.nm.2.kd.2.kd.2.want sBrace)).2)=(rowsX 33 [] (s.nx.nm.2.kd.2.kd.2.want sBrace)).2:=by
   have w:(if (rowsX 33 [] (s.nx.nm.2.kd.2.kd.2.want sBrace)).2.ok && (rowsX 33 [] (s.nx.nm.2.kd.2.kd.2.want sBrace)).1.length==32 then (rowsX 33 [] (s.nx.nm.2.kd.2.kd.2.want sBrace)).2.lim else (rowsX 33 [] (s.nx.nm.2.kd.2.kd.2.want sBrace)).2).ok=true:=w
   split at w
   ·cases w
   ·rename_i z
    exact ⟨w,if_neg z⟩
  have rr:=nb_rows 33 [] _ t.1 (by decide)
  have i0:=(go_rows 33 [] _ t.1 (by decide)).1
  have o3:=ok_want i0
  have k2:=ok_kd o3
  have k1:=ok_kd k2.1
  have z:=nx_is q
  have a:=nb_nm k1.1
  have b:=nb_kd k2.1
  have c:=nb_kd o3
  have d:=nb_want i0
  have u:=nb_want l.1
  have v:=nb_lit (ok_want h)
  have x:=nb_want h
  have e:(tabR (s.nx.nm.2.kd.2.kd.2.want sBrace)).1=(rowsX 33 [] (s.nx.nm.2.kd.2.kd.2.want sBrace)).1 ++ [rowT (aw (rowsX 33 [] (s.nx.nm.2.kd.2.kd.2.want sBrace)).2.l) [((rowsX 33 [] (s.nx.nm.2.kd.2.kd.2.want sBrace)).2.want sElse).lit.1]]:=by
   unfold tabR
   simp only
   rw [t.2]
  have e2:(tabR (s.nx.nm.2.kd.2.kd.2.want sBrace)).2=((rowsX 33 [] (s.nx.nm.2.kd.2.kd.2.want sBrace)).2.want sElse).lit.2.want sEnd:=by
   unfold tabR
   simp only
   rw [t.2]
  simp only [t.2] at u v x
  show nodT (.nd _ _ _ _ _ (tabR _).1)+(tabR _).2.l.length≤_
  rw [nodT,e,e2,nodL_app,nodL,nodL,rowT,nodT,nodL,nodL]
  rw [nodL] at rr
  omega
 ·cases h
theorem nb_decls {E:Ax} (hE:Nb E) (hG:Go1 40 E):∀ f ks s,(declsX E f ks s).2.ok=true→nodL (declsX E f ks s).1+(declsX E f ks s).2.l.length≤nodL ks+s.l.length
 | 0,ks,s,h=>Nat.le_refl _
 | f+1,ks,s,h=>by
  unfold declsX at h ⊢
  split at h
  ·rename_i q
   rw [if_pos q]
   have k:=nb_decls hE hG f _ _ h
   have y:(declX E s).2.ok=true:=by
    cases y:(declX E s).2.ok with
    | true=>rfl
    | false=>rw [bad_decls f _ _ y] at h;cases h
   have:=nb_decl hE hG s y
   rw [nodL_app,nodL,nodL] at k
   omega
  ·rename_i q
   rw [if_neg q]
   exact Nat.le_refl _
theorem nod_parse {t:ByteArray} {T:Tr} (hs:t.size≤3000) (h:parseX t=.inl T):nodT T≤3002:=by
 unfold parseX at h
 cases hc:cutF t 0 with
 | mk R o =>
  rw [hc] at h
  cases o with
  | some b=>simp at h
  | none =>
   have hR:=(cut_finX t _ 0 R (Nat.le_refl _) (Nat.zero_le _) hc).1
   simp only at h
   unfold parX at h
   simp only at h
   split at h
   ·rename_i q
    injection h with h
    subst h
    have:=nb_decls (nb_rec 40).2 (go_rec 40).2 _ _ _ (show (declsX (recR 40).2 (R.map (wo t)).length [] ⟨R.map (wo t),none,false⟩).2.ok=true from by unfold Sp.ok;rw [q];rfl)
    rw [nodL] at this
    have e:(⟨R.map (wo t),none,false⟩:Sp).l.length=R.length:=List.length_map _
    rw [nodT]
    omega
   ·cases h
theorem nod_tr {t:ByteArray} (hs:t.size≤3000):nodT (trX t)≤3002:=by
 unfold trX
 cases h:parseX t with
 | inl T=>exact nod_parse hs h
 | inr x=>show nodT Tr.zero≤3002;rw [Tr.zero,nodT,nodL];omega
end Go.Proofs.YteknljnjcoehoaaGreatDoor
