/- Parts of the proof. -/
import Derived.Test.YteknljnjcoehoaaGreatDoorPf
import Derived.Test.YteknljnjcoehoaaGreatDoorPe
namespace Go.Proofs.YteknljnjcoehoaaGreatDoor
open Go.RowKit
set_option linter.unusedVariables false
set_option linter.unusedSimpArgs false
theorem look_good {b0 b1 p B:Nat} {rn:List ByteArray} (S:Nat→Prop) (hS:∀ g,S g→g<B∧g≠b1∧g≠p) {m:Nat} {t:Tr} (h:GE m t):∀ loc:List ByteArray,loc.length+m≤100→LkC b0 b1 p B rn S loc t:=by
 have idx2:∀ {x y k:Tr} {i:Nat},[x,y][i]?=some k→k=x∨k=y:=by
  intro x y k i h
  match i,h with
  | 0,h=>simp at h;exact Or.inl h.symm
  | 1,h=>simp at h;exact Or.inr h.symm
  | i+2,h=>simp at h
 have idx1:∀ {x k:Tr} {i:Nat},[x][i]?=some k→k=x:=by
  intro x k i h
  match i,h with
  | 0,h=>simp at h;exact h.symm
  | i+1,h=>simp at h
 induction h with
 | lit m t h =>
  intro loc hloc
  obtain ⟨kind,n,a,h1,h5,rfl⟩:=h
  exact look_step S hS _ _ _ _ _ [] (by decide) loc (by omega) false rfl (fun i k e=>by simp at e)
 | name m nm a =>
  intro loc hloc
  exact look_step S hS _ _ _ _ _ [] (by decide) loc (by omega) false rfl (fun i k e=>by simp at e)
 | bin m op a x y ho hx hy ix iy =>
  intro loc hloc
  have ns:eqB op ⟨#[115,117,109]⟩=false:=by
   have ho:=ho
   simp only [ops12,List.mem_cons,List.not_mem_nil,or_false] at ho
   rcases ho with (rfl | rfl | rfl | rfl | rfl | rfl | rfl | rfl | rfl | rfl | rfl | rfl) | rfl | rfl <;> rfl
  refine look_step S hS _ _ _ _ _ [x,y] (by simp) loc (by omega) false ns (fun i k e=>?_)
  rcases idx2 e with rfl | rfl
  ·exact ix loc hloc
  ·exact iy loc hloc
 | un m op a x ho hx ix =>
  intro loc hloc
  rcases ho with rfl | rfl | rfl
  all_goals exact look_step S hS _ _ _ _ _ [x] (by simp) loc (by omega) false rfl (fun i k e=>by rw [idx1 e];exact ix loc hloc)
 | at_ m nm a x hx ix =>
  intro loc hloc
  exact look_step S hS _ _ _ _ _ [x] (by simp) loc (by omega) false rfl (fun i k e=>by rw [idx1 e];exact ix loc hloc)
 | iff m a x y z hx hy hz ix iy iz =>
  intro loc hloc
  refine look_step S hS _ _ _ _ _ [x,y,z] (by simp) loc (by omega) false rfl (fun i k e=>?_)
  match i,e with
  | 0,e=>simp at e;rw [← e];exact ix loc hloc
  | 1,e=>simp at e;rw [← e];exact iy loc hloc
  | 2,e=>simp at e;rw [← e];exact iz loc hloc
  | i+3,e=>simp at e
 | sum m nm a x y hx hy ix iy =>
  intro loc hloc
  refine look_step S hS _ _ _ _ _ [x,y] (by simp) loc (by omega) true rfl (fun i k e=>?_)
  have hb:∀ b:Bool,(if b=true then nm :: loc else loc).length+m≤100:=by
   intro b
   cases b
   ·show loc.length+m≤100;omega
   ·show loc.length+1+m≤100;omega
  rcases idx2 e with rfl | rfl
  ·exact ix _ (hb _)
  ·exact iy _ (hb _)
def NmP (l:List ByteArray) (w:World) (e:Ending) (w':World):Prop:=∃ v,e=.returned v∧Ow w' 9 w.heap.size v (sv l)∧Below w.heap.size w w'
theorem idx_none {ks:List Tr} {nm:ByteArray} (h:ks.findIdx? (fun k=>eqB k.op ⟨#[114,117,108,101]⟩ && eqB k.name nm)=none):idxR nm ks=-1∧namR ks nm=[]:=by
 refine ⟨by unfold idxR;rw [h],?_⟩
 unfold namR
 rw [List.findIdx?_eq_none_iff] at h
 rw [show ks.find? (fun k=>eqB k.op ⟨#[114,117,108,101]⟩ && eqB k.name nm)=none from List.find?_eq_none.2 (fun x hx=>by rw [h x hx];simp)]
theorem idx_some {ks:List Tr} {nm:ByteArray} {i:Nat} (h:ks.findIdx? (fun k=>eqB k.op ⟨#[114,117,108,101]⟩ && eqB k.name nm)=some i):idxR nm ks=(i:Int)∧∃ d,ks[i]?=some d∧eqB d.op ⟨#[114,117,108,101]⟩=true∧namR ks nm=srtN (lookAll (rnF ks) d):=by
 refine ⟨by unfold idxR;rw [h],?_⟩
 rw [List.findIdx?_eq_some_iff_getElem] at h
 obtain ⟨hi,hp,hb⟩:=h
 refine ⟨ks[i],List.getElem?_eq_getElem hi,by simp only [Bool.and_eq_true] at hp;exact hp.1,?_⟩
 unfold namR
 rw [show ks.find? (fun k=>eqB k.op ⟨#[114,117,108,101]⟩ && eqB k.name nm)=some ks[i] from List.find?_eq_some_iff_getElem.2 ⟨hp,i,hi,rfl,fun j hj=>by
  have h3:=hb j hj
  show (!(eqB ks[j].op ⟨#[114,117,108,101]⟩ && eqB ks[j].name nm))=true
  cases h4:(eqB ks[j].op ⟨#[114,117,108,101]⟩ && eqB ks[j].name nm) with
  | true=>exact absurd h4 h3
  | false=>rfl⟩]
theorem GD.rule {d:Tr} (h:GD d) (ho:eqB d.op ⟨#[114,117,108,101]⟩=true):∃ e,d.kids=[e]∧GE 40 e:=by
 cases h with
 | inp nm kind a h1 h6=>cases ho
 | rul nm kind a e h1 h6 he=>exact ⟨e,rfl,he⟩
 | tab nm kind kk a rs l h1 h6 k1 k6 hl hr hz=>cases ho
structure NaI (w w4 wr:World) (b0 b1 p:Nat) (rn:List ByteArray) (sv2:Value) (e:Tr) (S:Nat→Prop) (i:Nat):Prop where
 fd:∃ fv,Fdr wr b0 b1 p (p+1) rn [] fv (if i=0 then [] else lookT rn [] e)
 nd:Nd wr (fun g=>S g∧g<w.heap.size) sv2 [e]
 gs:Go2 w4 wr (p+1) b1 p
set_option maxRecDepth 100000 in
set_option maxHeartbeats 8000000 in
theorem Names_any (t:Tr) (hg:∀ k,k ∈ t.kids→GD k) (hl:t.kids.length≤10000) (hn:nodT t≤90000) (nm:ByteArray) (S:Nat→Prop) (w:World) (v:Value) (hd:Nd w S v t.kids) :
  Calls Tryz.prog 20 #[.agg #[.string t.op,.string t.name,.int .i64 (t.kind:Nat),.int .i64 t.n,.int .i64 (t.pl:Nat),v],.string nm] w fun e w'=>NmP (namR t.kids nm) w e w':=by
 obtain ⟨sa,sc,rfl⟩:=hd.lenY
 have BN:=hid (show Below w.heap.size w ((w.alloc (.cells #[.string t.op,.string t.name,.int .i64 (t.kind:Nat),.int .i64 t.n,.int .i64 (t.pl:Nat),.slice sa t.kids.length sc] 26)).alloc (.cells #[.string nm] 9)) from ((Below.refl _ _).alloc (Nat.le_refl _) _).alloc (by simp) _)
 have X2:=hid ((B6.new w 26 (.string t.op) (.string t.name) (.int .i64 (t.kind:Nat)) (.int .i64 t.n) (.int .i64 (t.pl:Nat)) (.slice sa t.kids.length sc)).next (show Below _ _ ((w.alloc (.cells #[.string t.op,.string t.name,.int .i64 (t.kind:Nat),.int .i64 t.n,.int .i64 (t.pl:Nat),.slice sa t.kids.length sc] 26)).alloc (.cells #[.string nm] 9)) from (Below.refl _ _).alloc (Nat.le_refl _) _))
 have C2:=hid (show ((w.alloc (.cells #[.string t.op,.string t.name,.int .i64 (t.kind:Nat),.int .i64 t.n,.int .i64 (t.pl:Nat),.slice sa t.kids.length sc] 26)).alloc (.cells #[.string nm] 9)).cell? ⟨w.heap.size+1,0,none⟩=some (.string nm) from by rw [show w.heap.size+1=(w.alloc (.cells #[.string t.op,.string t.name,.int .i64 (t.kind:Nat),.int .i64 t.n,.int .i64 (t.pl:Nat),.slice sa t.kids.length sc] 26)).heap.size by simp];simp)
 have N2:=hid (hd.keep (S':=fun g=>S g∧g<w.heap.size) fun g s l=>⟨⟨s,l⟩,BN.out.block g l⟩)
 have HG:=hid hg
 have HN:=hid hn
 have HL:=hid hl
 have KL9:(t.kids.length:Int)≤10000:=by omega
 obtain ⟨R,hR⟩:∃ R,namR t.kids nm=R:=⟨_,rfl⟩
 have RH:=hid hR
 rw [hR]
 clear hd hg hl hn hR
 unfold NmP
 go_enter Tryz.func20,Tryz.ntmps20
 go_upto_region 1 with fail
 generalize World.alloc (World.alloc w _) _=w2 at *
 have KI:=hid (index_rule _ t.kids nm _ w2 _ N2.out HL.out C2.out)
 have KF:=hid (fun W (b:Below w2.heap.size w2 W)=>newFinder_any t _ W (.slice sa t.kids.length sc) (N2.out.gwY b) HL.out)
 unfold NfP at KF
 have x5:=X2.out.c5
 cases hx:t.kids.findIdx? (fun k=>eqB k.op ⟨#[114,117,108,101]⟩ && eqB k.name nm) with
 | none =>
  obtain ⟨e1,e2⟩:=idx_none hx
  have FR:=hid (show R=[] from by rw [← RH.out,e2])
  rw [e1] at KI
  clear e1 e2 hx
  go_wp2_with (go_at_call 52;(with_reducible refine Calls.mono KI.out ?_);rintro e w3 ⟨rfl,b3⟩;have B3:=hid b3;clear b3)
  go_returns
  exact ⟨_,rfl,by rw [FR.out];exact Ow.nil _ _ _,nextB BN.out B3.out⟩
 | some i =>
  obtain ⟨e1,d,hk,ho,e2⟩:=idx_some hx
  have qi:i<t.kids.length:=(List.getElem?_eq_some_iff.1 hk).1
  have qi':(i:Int)<(t.kids.length:Int):=by omega
  have qi0:¬ (i:Int)<0:=by omega
  obtain ⟨x,dk,hge⟩:=(HG.out d (List.mem_of_getElem? hk)).rule ho
  have FR:=hid (show R=srtN (lookT (rnF t.kids) [] x) from by rw [← RH.out,e2];unfold lookAll;rw [dk];simp)
  have NX:=hid (show nodT x≤90000 from by have:=nod_kid (t:=d) (k:=x) (by rw [dk];simp);have:=nod_kid (List.mem_of_getElem? hk);have:=HN.out;omega)
  have GX:=hid hge
  have HK:=hid hk
  have DK:=hid dk
  rw [e1] at KI
  clear e1 e2 hx hk ho dk hge
  go_upto_region 2 with (go_at_call 52;(with_reducible refine Calls.mono KI.out ?_);rintro e w3 ⟨rfl,b3⟩;have B3:=hid b3;clear b3)
  clear x5
  have X3:=hid (X2.out.next B3.out)
  have KF3:=hid (KF.out w3 B3.out)
  obtain ⟨x0,x1,x2,x3,x4,x5,xz⟩:=X3.out
  go_upto_region 5 with (go_at_call 54;(with_reducible refine Calls.mono KF3.out ?_);rintro e w4 ⟨b0,b1,p,rfl,f4,b4,l4⟩;have F4:=hid f4;have B4:=hid b4;have L4:=hid l4;clear f4 b4 l4)
  clear x0 x1 x2 x3 x4 x5 xz
  have x5:=(X3.out.next B4.out).c5
  have N4:=hid ((N2.out.gwY B3.out).gwY B4.out)
  have LT:=hid F4.out.lt
  have A4:=hid (nextB BN.out (nextB B3.out B4.out))
  have LW:=hid (show w.heap.size<b0 from by have:=L4.out;have:=X3.out.lt;omega)
  obtain ⟨g,c,s3,ea,nc,nk⟩:=N4.out.atY i d HK.out
  rw [DK.out] at nk
  obtain ⟨ka,kc,rfl⟩:=nk.lenY
  have e5:=nc.e5
  obtain ⟨m,hm⟩:∃ m,[x].length=m:=⟨_,rfl⟩
  rw [hm] at e5 nk
  have HM:=hid (show m=1 from hm.symm)
  have ml:(m:Int)≤10000:=by have:=HM.out;omega
  clear hm
  injection ea with ea _ ec
  subst ea ec
  have I0:=hid (show NaI w w4 w4 b0 b1 p (rnF t.kids) (.slice ka m kc) x S 0 from ⟨⟨_,F4.out⟩,nk,Go2.refl _ _ _ _⟩)
  have HS:=hid (show ∀ g,(S g∧g<w.heap.size)→g<p+1∧g≠b1∧g≠p from fun g s=>by have:=s.2;have:=LT.out;have:=LW.out;omega)
  have KK:=hid (look_good (b0:=b0) (b1:=b1) (p:=p) (B:=p+1) (rn:=rnF t.kids) _ HS.out GX.out [] (by decide))
  clear nc nk F4 KF KF3 KI X2 C2 N2 X3 B3 B4 BN N4
  go_upto_region 6 with fail
  clear x5 e5
  generalize rnF t.kids=rn at *
  go_loopg [24,8] m (fun g iv jv wr=>∃ i:Nat,i≤m∧g=m - i∧iv=.int .i64 (i:Nat)∧Hid (NaI w w4 wr b0 b1 p rn (.slice ka m kc) x S i))
  case atStart=>exact ⟨0,Nat.zero_le _,rfl,rfl,I0.out⟩
  case round =>
   obtain ⟨i,hi,rfl,rfl,II⟩:=hrel
   by_cases qj:i<m
   ·have qj':(i:Int)<(m:Int):=by omega
    have I0':=hid (show i=0 from by have:=HM.out;omega)
    obtain ⟨fv,f1⟩:=II.out.fd
    have f0:Fdr wr b0 b1 p (p+1) rn [] fv []:=by rw [if_pos I0'.out] at f1;exact f1
    obtain ⟨g2,c2,s4,ea,nc,nk⟩:=II.out.nd.atY i x (by rw [I0'.out];rfl)
    obtain ⟨xa,xm,xc,rfl⟩:=nk.slice
    injection ea with ea em ec
    clear em
    subst ea ec
    obtain ⟨n0,n1,n2,n3,n4,n5⟩:=nc
    have B5:=hid (show Below wr.heap.size wr (wr.alloc (.cells #[.string x.op,.string x.name,.int .i64 (x.kind:Nat),.int .i64 x.n,.int .i64 (x.pl:Nat),.slice xa xm xc] 26)) from (Below.refl _ _).alloc (Nat.le_refl _) _)
    have X5:=hid (B6.new wr 26 (.string x.op) (.string x.name) (.int .i64 (x.kind:Nat)) (.int .i64 x.n) (.int .i64 (x.pl:Nat)) (.slice xa xm xc))
    have F5:=hid (f0.next B5.out)
    have D5:=hid (nk.gwY B5.out)
    have M5:=hid (II.out.nd.gwY B5.out)
    have G5:=hid (II.out.gs.below B5.out)
    clear nk II f0 f1 qj
    go_upto_region 8 with fail
    clear n0 n1 n2 n3 n4 n5
    generalize World.alloc wr _=w5 at *
    generalize wr.heap.size=xb at *
    have KC:=hid (KK.out w5 _ _ [] F5.out (by have:=NX.out;simp;omega) D5.out)
    obtain ⟨x0,x1,x2,x3,x4,x5,xz⟩:=X5.out
    go_wp2_with (go_at_call 55;(with_reducible refine Calls.mono KC.out ?_);rintro e w6 ⟨rfl,⟨fv6,f6⟩,g6⟩;have F6:=hid f6;have G6:=hid g6;clear f6 g6)
    go_roundg (m - (i+1))
    case measure=>omega
    case rel=>exact ⟨i+1,by omega,rfl,by rw [Int.natCast_add];rfl,⟨_,by rw [if_neg (Nat.succ_ne_zero i)];exact F6.out⟩,M5.out.go2 G6.out HS.out F5.out.sz,G5.out.trans G6.out⟩
   ·have qj':¬ (i:Int)<(m:Int):=by omega
    obtain ⟨fv,f0⟩:=II.out.fd
    have F7:=hid (show Fdr wr b0 b1 p (p+1) rn [] fv (lookT rn [] x) from by rw [if_neg (by have:=HM.out;omega)] at f0;exact f0)
    have G7:=hid II.out.gs
    clear II f0
    have LB:=hid (show (lookT rn [] x).length≤1000000 from by have:=look_len rn [] x;have:=NX.out;omega)
    have KS:=hid (Sort_own F7.out.row LB.out)
    have c2:=F7.out.c2
    go_upto_region 11 with (go_at_call 56;(with_reducible refine Calls.mono KS.out ?_);rintro e w8 ⟨rfl,o8,g8⟩;have O8:=hid o8;have G8:=hid g8;clear o8 g8)
    have NP:=hid (show fv.ownBlock≠some p from F7.out.row.ns (Or.inl (Nat.lt_succ_self p)))
    have c2':=(World.cell?_of_block (a:=⟨p,2,none⟩) (G8.out.block p F7.out.pl (fun e=>NP.out e.symm))).trans c2
    clear c2
    have KC:=hid (Compact_own O8.out (by rw [srtM_len];exact LB.out))
    go_wp2_with (go_at_call 57;(with_reducible refine Calls.mono KC.out ?_);rintro e w9 ⟨v9,rfl,o9,g9⟩;have O9:=hid o9;have G9:=hid g9;clear o9 g9)
    have BL:=hid (show Below w.heap.size w w9 from by
     have a:=A4.out.trans (G7.out.bel0 (C:=w.heap.size) A4.out.size (by have:=LT.out;have:=LW.out;omega) (by have:=LT.out;have:=LW.out;omega) (by have:=LT.out;have:=LW.out;omega))
     have b:=grB a G8.out a.size (fun i e=>by have:=(F7.out.row.lt i e).1;have:=LT.out;have:=LW.out;omega)
     exact grB b G9.out b.size (fun i e=>by have:=(O8.out.lt i e).1;have:=LT.out;have:=LW.out;omega))
    go_returns
    exact ⟨_,rfl,by rw [FR.out,← srtB_is];exact O9.out.mono (by have:=LT.out;have:=LW.out;omega),BL.out⟩
end Go.Proofs.YteknljnjcoehoaaGreatDoor
