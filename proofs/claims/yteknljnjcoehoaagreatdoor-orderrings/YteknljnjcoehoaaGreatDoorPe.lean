/- Parts of the proof. -/
import Derived.Test.YteknljnjcoehoaaGreatDoorPd
namespace Go.Proofs.YteknljnjcoehoaaGreatDoor
open Go.RowKit
set_option linter.unusedVariables false
set_option linter.unusedSimpArgs false
theorem fdC_at {l:List (ByteArray × Nat)} {j:Nat} {x:ByteArray × Nat} (h:l[j]?=some x):(fdC l)[j*2]?=some (.string x.1)∧(fdC l)[j*2+1]?=some (.int .i64 (x.2:Nat)):=by
 induction l generalizing j with
 | nil=>simp at h
 | cons y l ih =>
  have e:fdC (y :: l)=.string y.1 :: .int .i64 (y.2:Nat) :: fdC l:=by simp [fdC]
  rw [e]
  cases j with
  | zero=>simp at h;subst h;simp
  | succ j =>
   have:=ih (j:=j) (by simpa using h)
   rw [show (j+1)*2=j*2+1+1 by omega]
   simpa using this
theorem own_fw {w:World} {B:Nat} {v:Value} {l:List (ByteArray × Nat)} (h:w.ownsRow B 126 2 v l.length (fdC l)):∃ a c,v=.slice a l.length c∧Fw w a l∧∀ x,a=some x→x.block<w.heap.size:=by
 rcases h.2 with ⟨h1,h2⟩ | ⟨g,cap,cur,hv,hb,hg,hn,hm,hs,ht⟩
 ·have:l=[]:=List.length_eq_zero_iff.1 h2
  subst this
  exact ⟨none,0,h1,(fun i x hx=>by simp at hx),fun x e=>by cases e⟩
 ·refine ⟨_,cap,hv,fun i x hx=>?_,fun x e=>by injection e with e;subst e;exact (Array.getElem?_eq_some_iff.1 hg).1⟩
  have hi:=lt_of_some hx
  have c:∀ j u,(fdC l)[j]?=some u→w.cell? ⟨g,j,none⟩=some u:=fun j u hu=>by
   have e:=hu
   have jl:j<l.length*2:=by have:=lt_of_some hu;have:=h.1;omega
   rw [← ht,List.getElem?_take_of_lt jl,Array.getElem?_toList] at e
   simp [World.cell?,hg,e]
  exact ⟨g,rfl,c _ _ (fdC_at hx).1,c _ _ (fdC_at hx).2⟩
theorem Fdr.add0 {w:World} {b0 b1 p B:Nat} {rn loc:List ByteArray} {v:Value} {l:List ByteArray} (h:Fdr w b0 b1 p B rn loc v l) (nm:ByteArray):∃ w',(Instr.mapUpdate 97 (.map (some b0)) (.string nm) (.int .i64 ((cntK rn nm:Int)+1))).run Tryz.prog w=.ok () w'∧Fdr w' b0 b1 p B (rn ++ [nm]) loc v l∧w.grownBy w' (some b0):=by
 obtain ⟨m,a,b⟩:=h.m0
 obtain ⟨w',r,m,g⟩:=storeM w b0 nm (.int .i64 ((cntK rn nm:Int)+1)) m a umI
 have lt:=h.lt
 have pl:=h.pl
 have hk:∀ x,x<w.heap.size→x≠b0→w'.heap[x]?=w.heap[x]?:=fun x hx n=>g.block x hx (fun e=>n (by injection e))
 have e:∀ i,w'.cell? ⟨p,i,none⟩=w.cell? ⟨p,i,none⟩:=fun i=>World.cell?_of_block (a:=⟨p,i,none⟩) (hk p pl (by omega))
 refine ⟨w',r,⟨by rw [e];exact h.c0,by rw [e];exact h.c1,by rw [e];exact h.c2,fun i=>by rw [World.frozen?_of_block (a:=⟨p,i,none⟩) (hk p pl (by omega))];exact h.fz i,h.row.grown g (fun i hi e=>by have:=(h.row.lt i hi).1;injection e with e;omega),⟨_,m,fun j=>?_⟩,?_,lt,Nat.le_trans h.sz g.size⟩,g⟩
 ·have q:cntK (rn ++ [nm]) j=cntK rn j+if j=nm then 1 else 0:=by
   unfold cntK
   rw [List.countP_append]
   have:=cnt_cons [] nm j
   unfold cntK at this
   rw [this]
   simp
  rw [at_set,q]
  by_cases c:j=nm
  ·rw [if_pos c,if_pos c,c]
   simp
  ·rw [if_neg c,if_neg c,b j]
   simp
 ·obtain ⟨m,a,b⟩:=h.m1
  exact ⟨m,a.kept (hk b1 (by omega) (by omega)),b⟩
set_option maxRecDepth 100000 in
set_option maxHeartbeats 8000000 in
theorem pred_rule (k:Tr) (nm:ByteArray) (B:Nat) (w:World) (v:Value) (hv:v.oneCell'=true) (hB:w.cell? ⟨B,0,none⟩=some (.string nm)) :
  Calls Tryz.prog 53 #[.agg #[.string k.op,.string k.name,.int .i64 (k.kind:Nat),.int .i64 k.n,.int .i64 (k.pl:Nat),v],.pointer (some ⟨B,0,none⟩)] w fun e w'=>e=.returned (.bool (eqB k.op ⟨#[114,117,108,101]⟩ && eqB k.name nm))∧Below w.heap.size w w':=by
 have B1:=hid (show Below w.heap.size w (w.alloc (.cells #[.string k.op,.string k.name,.int .i64 (k.kind:Nat),.int .i64 k.n,.int .i64 (k.pl:Nat),v] 26)) from (Below.refl _ _).alloc (Nat.le_refl _) _)
 have hB1:=hid (celB B1.out hB)
 have hb:=hB1.out
 clear hB
 cases y1:eqB k.op ⟨#[114,117,108,101]⟩ with
 | false =>
  have z1:(k.op.toList==[114,117,108,101])=false:=(eqL _ _).trans y1
  clear y1
  go_enter Tryz.func53,Tryz.ntmps53
  go_wp2_with fail
  go_returns
  exact ⟨rfl,B1.out⟩
 | true =>
  have z1:(k.op.toList==[114,117,108,101])=true:=(eqL _ _).trans y1
  have z2:(k.name.toList==nm.toList)=eqB k.name nm:=eqB_is _ _
  generalize eqB k.name nm=c at *
  clear y1
  go_enter Tryz.func53,Tryz.ntmps53
  go_wp2_with fail
  go_returns
  exact ⟨rfl,B1.out⟩
def idxR (nm:ByteArray) (ks:List Tr):Int:=match ks.findIdx? (fun k=>eqB k.op ⟨#[114,117,108,101]⟩ && eqB k.name nm) with
 | some i=>(i:Int)
 | none=>-1
set_option maxRecDepth 100000 in
set_option maxHeartbeats 8000000 in
theorem index_rule (S:Nat→Prop) (ks:List Tr) (nm:ByteArray) (B:Nat) (w:World) (v:Value) (hd:Nd w S v ks) (hl:ks.length≤10000) (hB:w.cell? ⟨B,0,none⟩=some (.string nm)) :
  Calls Tryz.prog 52 #[v,.func (.func 53) #[] #[.pointer (some ⟨B,0,none⟩)]] w fun e w'=>e=.returned (.int .i64 (idxR nm ks))∧Below w.heap.size w w':=by
 obtain ⟨sa,sc,rfl⟩:=hd.lenY
 have ND:=hid hd
 have HB:=hid hB
 have KL:(ks.length:Int)≤10000:=by omega
 obtain ⟨R,hR⟩:∃ R,idxR nm ks=R:=⟨_,rfl⟩
 have RH:=hid hR
 rw [hR]
 clear hd hl hB hR
 go_enter Tryz.func52,Tryz.ntmps52
 go_wp2_with fail
 go_loopg [8,5] (ks.length) (fun g iv jv wr=>∃ i:Nat,i≤ks.length∧g=ks.length - i∧iv=.int .i64 (i:Nat)∧Hid (Below w.heap.size w wr)∧Hid (∀ (j:Nat) (z:Tr),j<i→ks[j]?=some z→(eqB z.op ⟨#[114,117,108,101]⟩ && eqB z.name nm)=false))
 case atStart=>exact ⟨0,Nat.zero_le _,rfl,rfl,Below.refl _ _,fun j z hj=>by omega⟩
 case round =>
  obtain ⟨i,hi,rfl,rfl,HBe,HA⟩:=hrel
  by_cases qi:i<ks.length
  ·have qi':(i:Int)<(ks.length:Int):=by omega
   obtain ⟨k,hk⟩:∃ k,ks[i]?=some k:=⟨_,List.getElem?_eq_getElem qi⟩
   obtain ⟨g,c,s3,ea,nc,nk⟩:=(ND.out.gwY HBe.out).atY i k hk
   obtain ⟨ka,km,kc,rfl⟩:=nk.slice
   injection ea with ea _ ec
   subst ea ec
   obtain ⟨n0,n1,n2,n3,n4,n5⟩:=nc
   have KP:=hid (pred_rule k nm B wr (.slice ka km kc) rfl (celB HBe.out HB.out))
   have HK:=hid hk
   clear nk hk
   cases y:(eqB k.op ⟨#[114,117,108,101]⟩ && eqB k.name nm) with
   | true =>
    rw [y] at KP
    have FF:=hid (show (i:Int)=R from by
     rw [← RH.out]
     unfold idxR
     rw [show ks.findIdx? (fun k=>eqB k.op ⟨#[114,117,108,101]⟩ && eqB k.name nm)=some i from by
      rw [List.findIdx?_eq_some_iff_getElem]
      refine ⟨qi,?_,fun j hj=>?_⟩
      ·have:=(List.getElem?_eq_some_iff.1 HK.out).2;rw [this];exact y
      ·have:=HA.out j _ hj (List.getElem?_eq_getElem (by omega));rw [this];simp])
    clear y
    go_wp2_with (go_at_call 53;(with_reducible refine Calls.mono KP.out ?_);rintro e w4 ⟨rfl,b4⟩;have B4:=hid b4;clear b4)
    go_returns
    exact ⟨by rw [FF.out];rfl,nextB HBe.out B4.out⟩
   | false =>
    rw [y] at KP
    have HN:=hid (show ∀ (j:Nat) (z:Tr),j<i+1→ks[j]?=some z→(eqB z.op ⟨#[114,117,108,101]⟩ && eqB z.name nm)=false from fun j z hj hz=>by
     by_cases c:j=i
     ·subst c;rw [HK.out] at hz;injection hz with hz;subst hz;exact y
     ·exact HA.out j z (by omega) hz)
    clear y
    go_wp2_with (go_at_call 53;(with_reducible refine Calls.mono KP.out ?_);rintro e w4 ⟨rfl,b4⟩;have B4:=hid b4;clear b4)
    go_roundg (ks.length - (i+1))
    case measure=>omega
    case rel=>exact ⟨i+1,by omega,rfl,by rw [Int.natCast_add];rfl,nextB HBe.out B4.out,HN.out⟩
  ·have qi':¬ (i:Int)<(ks.length:Int):=by omega
   have FF:=hid (show -1=R from by
    rw [← RH.out]
    unfold idxR
    rw [show ks.findIdx? (fun k=>eqB k.op ⟨#[114,117,108,101]⟩ && eqB k.name nm)=none from by
     rw [List.findIdx?_eq_none_iff]
     intro x hx
     obtain ⟨j,hj,rfl⟩:=List.mem_iff_getElem.1 hx
     exact HA.out j _ (by omega) (List.getElem?_eq_getElem hj)])
   go_wp2_with fail
   go_returns
   exact ⟨by rw [FF.out];rfl,HBe.out⟩
def NfP (rn:List ByteArray) (w:World) (e:Ending) (w':World):Prop:=∃ b0 b1 p,e=.returned (.pointer (some ⟨p,0,none⟩))∧Fdr w' b0 b1 p (p+1) rn [] (.slice none 0 0) []∧Below w.heap.size w w'∧w.heap.size≤b0
structure NfI (w wr:World) (b0 b1 p:Nat) (a:Option Addr) (fs:List (ByteArray × Nat)) (i:Nat):Prop where
 fd:Fdr wr b0 b1 p (p+1) ((fs.take i).map Prod.fst) [] (.slice none 0 0) []
 fw:Fw wr a fs
 al:∀ x,a=some x→p<x.block∧x.block<wr.heap.size
 bl:Below w.heap.size w wr
theorem Fw.kept {w w':World} {a:Option Addr} {be:List (ByteArray × Nat)} (h:Fw w a be) (k:∀ x,a=some x→w'.heap[x.block]?=w.heap[x.block]?):Fw w' a be:=fun i x hx=>by
 obtain ⟨g,h1,h2,h3⟩:=h i x hx
 exact ⟨g,h1,(World.cell?_of_block (a:=⟨g,i*2,none⟩) (k ⟨g,0,none⟩ h1)).trans h2,(World.cell?_of_block (a:=⟨g,i*2+1,none⟩) (k ⟨g,0,none⟩ h1)).trans h3⟩
theorem Fdr.new (w1:World):Fdr (((w1.alloc (.map #[] 0)).alloc (.map #[] 0)).alloc (.cells #[.map (some w1.heap.size),.map (some (w1.heap.size+1)),.slice none 0 0] 99)) w1.heap.size (w1.heap.size+1) (w1.heap.size+1+1) (w1.heap.size+1+1+1) [] [] (.slice none 0 0) []:=by
 have s1:(w1.alloc (.map #[] 0)).heap.size=w1.heap.size+1:=by simp
 have s2:((w1.alloc (.map #[] 0)).alloc (.map #[] 0)).heap.size=w1.heap.size+1+1:=by simp
 have m0:MapS (((w1.alloc (.map #[] 0)).alloc (.map #[] 0)).alloc (.cells #[.map (some w1.heap.size),.map (some (w1.heap.size+1)),.slice none 0 0] 99)) w1.heap.size []:=(MapS.new w1).kept (((((Below.refl _ _).alloc (Nat.le_refl _) (.map #[] 0)).alloc (by simp) (.cells #[.map (some w1.heap.size),.map (some (w1.heap.size+1)),.slice none 0 0] 99)):Below (w1.alloc (.map #[] 0)).heap.size (w1.alloc (.map #[] 0)) _).block _ (by simp))
 have m1:=(MapS.new (w1.alloc (.map #[] 0))).kept (((Below.refl _ _).alloc (Nat.le_refl _) (.cells #[.map (some w1.heap.size),.map (some (w1.heap.size+1)),.slice none 0 0] 99):Below ((w1.alloc (.map #[] 0)).alloc (.map #[] 0)).heap.size ((w1.alloc (.map #[] 0)).alloc (.map #[] 0)) _).block _ (by simp))
 rw [s1] at m1
 have c:∀ (W:World) (x y z:Value) (T:TypeId),((W.alloc (.cells #[x,y,z] T)).cell? ⟨W.heap.size,0,none⟩=some x∧(W.alloc (.cells #[x,y,z] T)).cell? ⟨W.heap.size,1,none⟩=some y∧(W.alloc (.cells #[x,y,z] T)).cell? ⟨W.heap.size,2,none⟩=some z)∧∀ i,(W.alloc (.cells #[x,y,z] T)).frozen? ⟨W.heap.size,i,none⟩=false:=fun W x y z T=>⟨⟨by simp,by simp,by simp⟩,fun i=>by simp⟩
 refine ⟨?_,?_,?_,fun i=>?_,Ow.nil _ _ _,⟨[],m0,fun _=>rfl⟩,⟨[],m1,fun _=>rfl⟩,by omega,by simp⟩
 ·rw [← s2];exact (c _ _ _ _ _).1.1
 ·rw [← s2];exact (c _ _ _ _ _).1.2.1
 ·rw [← s2];exact (c _ _ _ _ _).1.2.2
 ·rw [← s2];exact (c _ _ _ _ _).2 i
set_option maxRecDepth 100000 in
set_option maxHeartbeats 8000000 in
theorem newFinder_any (t:Tr) (S:Nat→Prop) (w:World) (v:Value) (hd:Nd w S v t.kids) (hl:t.kids.length≤10000) :
  Calls Tryz.prog 54 #[.agg #[.string t.op,.string t.name,.int .i64 (t.kind:Nat),.int .i64 t.n,.int .i64 (t.pl:Nat),v]] w fun e w'=>NfP (rnF t.kids) w e w':=by
 obtain ⟨sa,sm,sc,rfl⟩:=hd.slice
 have X1:=hid (B6.new w 26 (.string t.op) (.string t.name) (.int .i64 (t.kind:Nat)) (.int .i64 t.n) (.int .i64 (t.pl:Nat)) (.slice sa sm sc))
 have F2:=hid (Fdr.new (w.alloc (.cells #[.string t.op,.string t.name,.int .i64 (t.kind:Nat),.int .i64 t.n,.int .i64 (t.pl:Nat),.slice sa sm sc] 26)))
 rw [show (w.alloc (.cells #[.string t.op,.string t.name,.int .i64 (t.kind:Nat),.int .i64 t.n,.int .i64 (t.pl:Nat),.slice sa sm sc] 26)).heap.size=w.heap.size+1 by simp] at F2
 have BN:=hid (show Below w.heap.size w ((((w.alloc (.cells #[.string t.op,.string t.name,.int .i64 (t.kind:Nat),.int .i64 t.n,.int .i64 (t.pl:Nat),.slice sa sm sc] 26)).alloc (.map #[] 0)).alloc (.map #[] 0)).alloc (.cells #[.map (some (w.heap.size+1)),.map (some (w.heap.size+1+1)),.slice none 0 0] 99)) from ((((Below.refl _ _).alloc (Nat.le_refl _) _).alloc (by simp) _).alloc (by simp;omega) _).alloc (by simp;omega) _)
 have X2:=hid (X1.out.next (show Below _ _ ((((w.alloc (.cells #[.string t.op,.string t.name,.int .i64 (t.kind:Nat),.int .i64 t.n,.int .i64 (t.pl:Nat),.slice sa sm sc] 26)).alloc (.map #[] 0)).alloc (.map #[] 0)).alloc (.cells #[.map (some (w.heap.size+1)),.map (some (w.heap.size+1+1)),.slice none 0 0] 99)) from (((Below.refl _ _).alloc (Nat.le_refl _) _).alloc (by simp) _).alloc (by simp) _))
 have LT0:=hid (show w.heap.size<w.heap.size+1 from by omega)
 have FN:=hid (show rnF t.kids=(fldF ⟨#[114,117,108,101]⟩ t.kids).map Prod.fst from rfl)
 have FL:=hid (show (fldF ⟨#[114,117,108,101]⟩ t.kids).length≤10000 from by unfold fldF;rw [List.length_map];exact Nat.le_trans (List.length_filter_le _ _) hl)
 have KR:=hid (fun W (b:Below w.heap.size w W)=>Rules_any t S W (.slice sa sm sc) (hd.gwY b) hl)
 unfold FsP at KR
 rw [FN.out]
 generalize fldF ⟨#[114,117,108,101]⟩ t.kids=fs at *
 have mm:=mmI
 clear hd hl FN
 unfold NfP
 go_enter Tryz.func54,Tryz.ntmps54
 go_upto_region 2 with fail
 clear mm X1
 generalize World.alloc (World.alloc (World.alloc (World.alloc w _) _) _) _=w2 at *
 generalize w.heap.size+1+1+1=p at *
 generalize w.heap.size+1+1=b1 at *
 generalize w.heap.size+1=b0 at *
 have kr:=hid (KR.out w2 BN.out)
 obtain ⟨x0,x1,x2,x3,x4,x5,xz⟩:=X2.out
 go_upto_region 3 with (go_at_call 98;(with_reducible refine Calls.mono kr.out ?_);rintro e w4 ⟨vr,rfl,o4,b4⟩;have B4:=hid b4;obtain ⟨ra,rc,rfl,fw4,al4⟩:=own_fw o4;have FW:=hid fw4;have AL:=hid (show ∀ x,ra=some x→w2.heap.size≤x.block∧x.block<w4.heap.size from fun x e=>⟨(o4.lt x.block (by rw [e];rfl)).1,al4 x e⟩);clear b4 o4 fw4 al4)
 clear x0 x1 x2 x3 x4 x5 xz kr X2
 have I0:=hid (show NfI w w4 b0 b1 p ra fs 0 from ⟨by simpa using F2.out.next B4.out,FW.out,fun x e=>⟨by have:=(AL.out x e).1;have:=F2.out.sz;omega,(AL.out x e).2⟩,nextB BN.out B4.out⟩)
 have LT:=hid F2.out.lt
 have SZ:=hid (show w.heap.size≤b0 from Nat.le_of_lt LT0.out)
 have fl:(fs.length:Int)≤10000:=by have:=FL.out;omega
 clear F2 FW AL BN B4 KR LT0
 go_loopg [13,5] (fs.length) (fun g iv jv wr=>∃ i:Nat,i≤fs.length∧g=fs.length - i∧iv=.int .i64 (i:Nat)∧Hid (NfI w wr b0 b1 p ra fs i))
 case atStart=>exact ⟨0,Nat.zero_le _,rfl,rfl,I0.out⟩
 case round =>
  obtain ⟨i,hi,rfl,rfl,II⟩:=hrel
  by_cases qi:i<fs.length
  ·have qi':(i:Int)<(fs.length:Int):=by omega
   obtain ⟨f,hf⟩:∃ f,fs[i]?=some f:=⟨_,List.getElem?_eq_getElem qi⟩
   obtain ⟨g,ea,c0,c1⟩:=II.out.fw i f hf
   subst ea
   have TK:=hid (show (fs.take (i+1)).map Prod.fst=(fs.take i).map Prod.fst ++ [f.1] from by
    obtain ⟨h1,h2⟩:=List.getElem?_eq_some_iff.1 hf
    rw [← h2,← List.map_singleton (f:=Prod.fst),← List.map_append,List.take_append_getElem])
   have B3:=hid (show Below wr.heap.size wr (wr.alloc (.cells #[.string f.1,.int .i64 (f.2:Nat)] 126)) from (Below.refl _ _).alloc (Nat.le_refl _) _)
   have F3:=hid (II.out.fd.next B3.out)
   have W3:=hid (II.out.fw.next B3.out)
   have A3:=hid (nextB II.out.bl B3.out)
   have C3:=hid (show (wr.alloc (.cells #[.string f.1,.int .i64 (f.2:Nat)] 126)).cell? ⟨wr.heap.size,0,none⟩=some (.string f.1) from by simp)
   have AL:=hid (fun x e=>And.intro (II.out.al x e).1 (Nat.lt_of_lt_of_le (II.out.al x e).2 B3.out.size))
   have PB:=hid (show p<wr.heap.size from II.out.fd.pl)
   have CB:=hid (show (cntK ((fs.take i).map Prod.fst) f.1:Int)≤10000 from by have:=Nat.le_trans (List.countP_le_length (p:=fun x=>eqB x f.1) (l:=(fs.take i).map Prod.fst)) (by rw [List.length_map];exact List.length_take_le _ _);have:=FL.out;unfold cntK;omega)
   clear hf II
   go_upto_region 5 with fail
   clear c0 c1
   generalize World.alloc wr _=w3 at *
   generalize wr.heap.size=xb at *
   have c0:=F3.out.c0
   have y0:=C3.out
   refine wp_region_held_drew (S:=fun W=>W.cell? ⟨p,0,none⟩=some (.map (some b0))∧W.cell? ⟨xb,0,none⟩=some (.string f.1)) (by kernel_rfl) ⟨c0,y0⟩ (fun hHeld=>?_)
   refine tk 0 (.pointer (some ⟨p,0,none⟩)) 17 rfl rfl rfl (by kernel_rfl) (fun _ _ _ h=>h) (by rfl) hHeld ?_ ?_
   ·(intro W hW;(try dsimp only at hW);go_simp)
   try simp only [Act.put,List.setIfInBounds_toArray,List.set_cons_zero,List.set_cons_succ]
   refine tk 1 (.pointer (some ⟨p,0,none⟩)) 18 rfl rfl rfl (by kernel_rfl) (fun _ _ _ h=>h) (by rfl) hHeld ?_ ?_
   ·(intro W hW;(try dsimp only at hW);go_simp)
   try simp only [Act.put,List.setIfInBounds_toArray,List.set_cons_zero,List.set_cons_succ]
   refine tk 2 (.pointer (some ⟨p,0,none⟩)) 19 rfl rfl rfl (by kernel_rfl) (fun _ _ _ h=>h) (by rfl) hHeld ?_ ?_
   ·(intro W hW;(try dsimp only at hW);go_simp)
   try simp only [Act.put,List.setIfInBounds_toArray,List.set_cons_zero,List.set_cons_succ]
   refine tk 3 (.map (some b0)) 20 rfl rfl rfl (by kernel_rfl) (fun _ _ _ h=>h) (by rfl) hHeld ?_ ?_
   ·(intro W hW;(try dsimp only at hW);have c4:=hW.1;go_simp)
   try simp only [Act.put,List.setIfInBounds_toArray,List.set_cons_zero,List.set_cons_succ]
   refine tk 4 (.pointer (some ⟨xb,0,none⟩)) 21 rfl rfl rfl (by kernel_rfl) (fun _ _ _ h=>h) (by rfl) hHeld ?_ ?_
   ·(intro W hW;(try dsimp only at hW);go_simp)
   try simp only [Act.put,List.setIfInBounds_toArray,List.set_cons_zero,List.set_cons_succ]
   refine tk 5 (.string f.1) 22 rfl rfl rfl (by kernel_rfl) (fun _ _ _ h=>h) (by rfl) hHeld ?_ ?_
   ·(intro W hW;(try dsimp only at hW);have c4:=hW.2;go_simp)
   try simp only [Act.put,List.setIfInBounds_toArray,List.set_cons_zero,List.set_cons_succ]
   clear c0 y0
   have D3:=hid (show Below w3.heap.size w3 w3.drew from (Below.refl _ _).drew)
   generalize w3.drew=wz at *
   have FZ:=hid (F3.out.next D3.out)
   have CZ:=hid (celB D3.out C3.out)
   have k0:=FZ.out.k0 f.1
   have cb:=CB.out
   obtain ⟨cn,hcn⟩:∃ cn,cntK ((fs.take i).map Prod.fst) f.1=cn:=⟨_,rfl⟩
   have CN:=hid hcn
   rw [hcn] at k0 cb
   clear hcn
   have cw:IntKind.i64.wrap ((cn:Int)+1)=(cn:Int)+1:=by go_arith
   refine wpAnyH_ready (rs:=[6]) (by kernel_rfl) (by simp) ?_
   refine cons2 rfl rfl (fun K9 hK=>?_)
   go_simp
   refine hK.out _ _ ⟨FZ.out.c0,CZ.out⟩ (fun hX=>?_)
   clear hK K9 hHeld
   have hHeld:=hX
   clear hX
   try simp only [Act.put,List.setIfInBounds_toArray,List.set_cons_zero,List.set_cons_succ]
   refine tk 7 (.int .i64 ((cn:Int)+1)) 24 rfl rfl rfl (by kernel_rfl) (fun _ _ _ h=>h) (by rfl) hHeld ?_ ?_
   ·(intro W hW;(try dsimp only at hW);go_simp)
   try simp only [Act.put,List.setIfInBounds_toArray,List.set_cons_zero,List.set_cons_succ]
   clear k0
   obtain ⟨w6,r6,f6,g6⟩:=FZ.out.add0 f.1
   rw [CN.out] at r6
   have F6:=hid f6
   have W6:=hid ((W3.out.next D3.out).kept (fun x e=>g6.block x.block (by have:=(AL.out x e).2;have:=D3.out.size;omega) (fun e2=>by have:=(AL.out x e).1;have:=LT.out;injection e2 with e2;omega)))
   have A6:=hid (grB (nextB A3.out D3.out) g6 (nextB A3.out D3.out).size (fun i e=>by injection e with e;have:=SZ.out;omega))
   have L6:=hid (show ∀ x,(some ⟨g,0,none⟩:Option Addr)=some x→p<x.block∧x.block<w6.heap.size from fun x e=>⟨(AL.out x e).1,Nat.lt_of_lt_of_le (AL.out x e).2 (Nat.le_trans D3.out.size g6.size)⟩)
   have C6:=hid ((World.cell?_of_block (a:=⟨xb,0,none⟩) (g6.block xb (World.block_lt_of_cell? _ _ CZ.out) (fun e=>by injection e with e;have:=LT.out;have:=PB.out;omega))).trans CZ.out)
   clear f6 g6
   refine wpAnyH_ready (rs:=[8]) (by kernel_rfl) (by simp) ?_
   refine cons2 rfl rfl (fun K9 hK=>?_)
   go_simp
   go_wp2_with fail
   refine hK.out _ _ ⟨F6.out.c0,C6.out⟩ (fun hX=>?_)
   clear hK K9 hHeld
   have hHeld:=hX
   clear hX
   try simp only [Act.put,List.setIfInBounds_toArray,List.set_cons_zero,List.set_cons_succ]
   refine wpAnyH_done (by kernel_rfl) ?_ _
   clear F3 W3 A3 C3 AL D3 FZ CZ r6 cb CB
   go_wp2_with fail
   go_roundg (fs.length - (i+1))
   case measure=>omega
   case rel=>exact ⟨i+1,by omega,rfl,by rw [Int.natCast_add];rfl,by rw [TK.out];exact F6.out,W6.out,L6.out,A6.out⟩
  ·have qi':¬ (i:Int)<(fs.length:Int):=by omega
   have TK:=hid (show fs.take i=fs from List.take_of_length_le (by omega))
   go_wp2_with fail
   go_returns
   exact ⟨b0,b1,p,rfl,by rw [← TK.out];exact II.out.fd,II.out.bl,SZ.out⟩
end Go.Proofs.YteknljnjcoehoaaGreatDoor
