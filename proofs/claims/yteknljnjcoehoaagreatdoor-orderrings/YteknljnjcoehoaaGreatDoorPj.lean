/- Parts of the proof. -/
import Derived.Test.YteknljnjcoehoaaGreatDoorPi
namespace Go.Proofs.YteknljnjcoehoaaGreatDoor
open Go.RowKit
set_option linter.unusedVariables false
set_option linter.unusedSimpArgs false
def fstI (l:List Bool):Int:=match l.findIdx? id with | some i=>(i:Int) | none=>-1
theorem fst_at {l:List Bool} {i:Nat} (h:l[i]?=some true) (hb:∀ j b,j<i→l[j]?=some b→b=false):fstI l=(i:Int):=by
 unfold fstI
 rw [show l.findIdx? id=some i from by
  rw [List.findIdx?_eq_some_iff_getElem]
  obtain ⟨hi,e⟩:=List.getElem?_eq_some_iff.1 h
  exact ⟨hi,e,fun j hj=>by have:=hb j _ hj (List.getElem?_eq_getElem (by omega));rw [this];simp⟩]
theorem fst_no {l:List Bool} (hb:∀ (j:Nat) b,l[j]?=some b→b=false):fstI l=-1:=by
 unfold fstI
 rw [show l.findIdx? id=none from by
  rw [List.findIdx?_eq_none_iff]
  intro x hx
  obtain ⟨j,hj,rfl⟩:=List.mem_iff_getElem.1 hx
  exact hb j _ (List.getElem?_eq_getElem hj)]
theorem fst_any (l:List Bool):decide (0≤fstI l)=l.any id:=by
 unfold fstI
 cases h:l.findIdx? id with
 | none =>
  rw [List.findIdx?_eq_none_iff] at h
  rw [show l.any id=false from by rw [List.any_eq_false];intro x hx;rw [h x hx];simp]
  rfl
 | some i =>
  rw [List.findIdx?_eq_some_iff_getElem] at h
  obtain ⟨hi,e,_⟩:=h
  rw [show l.any id=true from List.any_eq_true.2 ⟨l[i],List.getElem_mem hi,e⟩]
  simp
set_option maxRecDepth 100000 in
set_option maxHeartbeats 8000000 in
theorem Index_any {w:World} {a:Option Addr} {n c:Nat} {l:List ByteArray} (h:Sl w a n c (sv l)) (hl:l.length≤1000000) (s:ByteArray) :
  Calls Tryz.prog 150 #[.slice a n c,.string s] w fun e w'=>e=.returned (.int .i64 (fstI (l.map fun y=>eqB s y)))∧Below w.heap.size w w':=by
 have HN:=hid h.slen
 obtain rfl:l.length=n:=HN.out
 have SL:=hid h
 have KL:(l.length:Int)≤1000000:=by omega
 obtain ⟨R,hR⟩:∃ R,fstI (l.map fun y=>eqB s y)=R:=⟨_,rfl⟩
 have RH:=hid hR
 rw [hR]
 clear h hl hR HN
 go_enter Tryz.func150,Tryz.ntmps150
 go_wp2_with fail
 go_loopg [8,5] (l.length) (fun g iv jv wr=>∃ i:Nat,i≤l.length∧g=l.length - i∧iv=.int .i64 (i:Nat)∧Hid (Below w.heap.size w wr)∧Hid (∀ (j:Nat) b,j<i→(l.map fun y=>eqB s y)[j]?=some b→b=false))
 case atStart=>exact ⟨0,Nat.zero_le _,rfl,rfl,Below.refl _ _,fun j z hj=>by omega⟩
 case round =>
  obtain ⟨i,hi,rfl,rfl,HBe,HA⟩:=hrel
  by_cases qi:i<l.length
  ·have qi':(i:Int)<(l.length:Int):=by omega
   obtain ⟨g,o,rfl,_⟩:=SL.out.at (by omega)
   have cc:=celB HBe.out (SL.out.str qi)
   obtain ⟨y,hy⟩:∃ y,l[i]?=some y:=⟨_,List.getElem?_eq_getElem qi⟩
   have hy2:l.getD i ByteArray.empty=y:=by rw [List.getD_eq_getElem?_getD,hy];rfl
   rw [hy2] at cc
   have HY:=hid (show (l.map fun y=>eqB s y)[i]?=some (eqB s y) from by rw [List.getElem?_map,hy];rfl)
   clear hy hy2
   cases z:eqB s y with
   | true =>
    have z1:(s.toList==y.toList)=true:=(eqB_is _ _).trans z
    have FF:=hid (show (i:Int)=R from by rw [← RH.out];exact (fst_at (by rw [HY.out,z]) HA.out).symm)
    clear z
    go_wp2_with fail
    go_returns
    exact ⟨by rw [FF.out];rfl,HBe.out⟩
   | false =>
    have z1:(s.toList==y.toList)=false:=(eqB_is _ _).trans z
    have HN:=hid (show ∀ (j:Nat) b,j<i+1→(l.map fun y=>eqB s y)[j]?=some b→b=false from fun j b hj hb=>by
     by_cases c:j=i
     ·subst c;rw [HY.out] at hb;injection hb with hb;rw [← hb];exact z
     ·exact HA.out j b (by omega) hb)
    clear z
    go_wp2_with fail
    go_roundg (l.length - (i+1))
    case measure=>omega
    case rel=>exact ⟨i+1,by omega,rfl,by rw [Int.natCast_add];rfl,HBe.out,HN.out⟩
  ·have qi':¬ (i:Int)<(l.length:Int):=by omega
   have FF:=hid (show -1=R from by
    rw [← RH.out]
    exact (fst_no fun j b hb=>HA.out j b (by have:=(List.getElem?_eq_some_iff.1 hb).1;rw [List.length_map] at this;omega) hb).symm)
   go_wp2_with fail
   go_returns
   exact ⟨by rw [FF.out];rfl,HBe.out⟩
set_option maxRecDepth 100000 in
set_option maxHeartbeats 8000000 in
theorem Contains_any {w:World} {a:Option Addr} {n c:Nat} {l:List ByteArray} (h:Sl w a n c (sv l)) (hl:l.length≤1000000) (s:ByteArray) :
  Calls Tryz.prog 101 #[.slice a n c,.string s] w fun e w'=>e=.returned (.bool (hasN l s))∧Below w.heap.size w w':=by
 have K:=hid (Index_any h hl s)
 have E:=hid (show decide (0≤fstI (l.map fun y=>eqB s y))=hasN l s from by rw [fst_any];unfold hasN;rw [List.any_map];rfl)
 generalize fstI (l.map fun y=>eqB s y)=r at *
 generalize hasN l s=b at *
 clear h
 cases b with
 | true =>
  have q:(0:Int)≤r:=of_decide_eq_true E.out
  have qb:=E.out
  go_enter Tryz.func101,Tryz.ntmps101
  go_wp2_with (go_at_call 150;(with_reducible refine Calls.mono K.out ?_);rintro e w4 ⟨rfl,b4⟩;have B4:=hid b4;clear b4)
  go_returns
  exact ⟨rfl,B4.out⟩
 | false =>
  have q:¬ (0:Int)≤r:=of_decide_eq_false E.out
  have qb:=E.out
  go_enter Tryz.func101,Tryz.ntmps101
  go_wp2_with (go_at_call 150;(with_reducible refine Calls.mono K.out ?_);rintro e w4 ⟨rfl,b4⟩;have B4:=hid b4;clear b4)
  go_returns
  exact ⟨rfl,B4.out⟩
structure Lw (w:World) (g cap:Nat) (ys:List N2) (W:List Ln):Prop where
 row:∃ cur,RwL w g cap cur∧cur.toList.take (ys.length*2)=c2 ys
 len:ys.length=W.length
 fits:ys.length≤cap
 el:∀ (i:Nat) (y:N2) (l:Ln),ys[i]?=some y→W[i]?=some l→y.n=l.1∧Sl w y.a y.m y.c (sv l.2)∧l.2.length≤1000000∧∀ x,y.a=some x→x.block≠g∧x.block<w.heap.size
theorem Lw.gl {w:World} {g cap:Nat} {ys:List N2} {W:List Ln} (h:Lw w g cap ys W):g<w.heap.size:=by
 obtain ⟨cur,h1,_⟩:=h.row
 exact (Array.getElem?_eq_some_iff.1 h1.blk).1
theorem Lw.next {w w':World} {g cap:Nat} {ys:List N2} {W:List Ln} (h:Lw w g cap ys W) (b:Below w.heap.size w w'):Lw w' g cap ys W:=by
 obtain ⟨cur,h1,h2⟩:=h.row
 refine ⟨⟨cur,⟨by rw [b.block g h.gl];exact h1.blk,h1.sz,h1.mx⟩,h2⟩,h.len,h.fits,fun i y l hy hl=>?_⟩
 obtain ⟨a1,a2,a3,a4⟩:=h.el i y l hy hl
 exact ⟨a1,a2.below b,a3,fun x e=>⟨(a4 x e).1,Nat.lt_of_lt_of_le (a4 x e).2 b.size⟩⟩
theorem Lw.cell {w:World} {g cap:Nat} {ys:List N2} {W:List Ln} (h:Lw w g cap ys W) {i:Nat} {y:N2} (hy:ys[i]?=some y):w.cell? ⟨g,i*2,none⟩=some (.string y.n)∧w.cell? ⟨g,i*2+1,none⟩=some (.slice y.a y.m y.c):=by
 obtain ⟨cur,h1,h2⟩:=h.row
 have hi:=lt_of_some hy
 have c:∀ j u,j<ys.length*2→(c2 ys)[j]?=some u→w.cell? ⟨g,j,none⟩=some u:=fun j u jl hu=>by
  rw [← h2,List.getElem?_take_of_lt jl,Array.getElem?_toList] at hu
  simp [World.cell?,h1.blk,hu]
 exact ⟨c (i*2) _ (by omega) (by have:=c2_at ys i 0 y hy (by omega);simpa [N2.cs] using this),c (i*2+1) _ (by omega) (by have:=c2_at ys i 1 y hy (by omega);simpa [N2.cs] using this)⟩
def B2 (w:World) (b:Nat) (y:N2):Prop:=w.cell? ⟨b,0,none⟩=some (.string y.n)∧w.cell? ⟨b,1,none⟩=some (.slice y.a y.m y.c)
theorem B2.new (w:World) (y:N2):B2 (w.alloc (.cells #[.string y.n,.slice y.a y.m y.c] 84)) w.heap.size y:=⟨by simp,by simp⟩
theorem B2.next {w w':World} {b:Nat} {y:N2} (h:B2 w b y) (k:Below w.heap.size w w'):B2 w' b y:=⟨celB k h.1,celB k h.2⟩
set_option maxRecDepth 100000 in
set_option maxHeartbeats 8000000 in
theorem isFree1_any (lb:Nat) (x y:N2) (on:List ByteArray) (w:World) (hb:B2 w lb x) (hs:Sl w x.a x.m x.c (sv on)) (hl:on.length≤1000000) :
  Calls Tryz.prog 100 #[.agg #[.string y.n,.slice y.a y.m y.c],.pointer (some ⟨lb,0,none⟩)] w fun e w'=>e=.returned (.bool (hasN on y.n))∧Below w.heap.size w w':=by
 have B1:=hid (show Below w.heap.size w (w.alloc (.cells #[.string y.n,.slice y.a y.m y.c] 84)) from (Below.refl _ _).alloc (Nat.le_refl _) _)
 have X1:=hid (B2.new w y)
 have L1:=hid (hb.next B1.out)
 have K:=hid (Contains_any (hs.below B1.out) hl y.n)
 clear hb hs hl
 go_enter Tryz.func100,Tryz.ntmps100
 go_upto_region 1 with fail
 generalize World.alloc w _=w1 at *
 obtain ⟨p0,p1⟩:=X1.out
 obtain ⟨q0,q1⟩:=L1.out
 go_wp2_with (go_at_call 101;(with_reducible refine Calls.mono K.out ?_);rintro e w4 ⟨rfl,b4⟩;have B4:=hid b4;clear b4)
 go_returns
 exact ⟨rfl,nextB B1.out B4.out⟩
set_option maxRecDepth 100000 in
set_option maxHeartbeats 8000000 in
theorem indexF (cp:Value) {w:World} {g cap:Nat} {ys:List N2} {W:List Ln} (h:Lw w g cap ys W) (hn:ys.length≤10000) (bs:List Bool) (hbl:bs.length=ys.length)
  (hp:∀ (i:Nat) (y:N2) (b:Bool),ys[i]?=some y→bs[i]?=some b→∀ V,Below w.heap.size w V→Calls Tryz.prog 100 #[.agg #[.string y.n,.slice y.a y.m y.c],cp] V fun e V'=>e=.returned (.bool b)∧Below V.heap.size V V') :
  Calls Tryz.prog 45 #[.slice (some ⟨g,0,none⟩) ys.length cap,.func (.func 100) #[] #[cp]] w fun e w'=>e=.returned (.int .i64 (fstI bs))∧Below w.heap.size w w':=by
 have LW:=hid h
 have HP:=hid hp
 have BL:=hid hbl
 have KL:(ys.length:Int)≤10000:=by omega
 obtain ⟨R,hR⟩:∃ R,fstI bs=R:=⟨_,rfl⟩
 have RH:=hid hR
 rw [hR]
 clear h hn hp hR hbl
 go_enter Tryz.func45,Tryz.ntmps45
 go_wp2_with fail
 go_loopg [8,5] (ys.length) (fun g iv jv wr=>∃ i:Nat,i≤ys.length∧g=ys.length - i∧iv=.int .i64 (i:Nat)∧Hid (Below w.heap.size w wr)∧Hid (∀ (j:Nat) b,j<i→bs[j]?=some b→b=false))
 case atStart=>exact ⟨0,Nat.zero_le _,rfl,rfl,Below.refl _ _,fun j z hj=>by omega⟩
 case round =>
  obtain ⟨i,hi,rfl,rfl,HBe,HA⟩:=hrel
  by_cases qi:i<ys.length
  ·have qi':(i:Int)<(ys.length:Int):=by omega
   obtain ⟨y,hy⟩:∃ y,ys[i]?=some y:=⟨_,List.getElem?_eq_getElem qi⟩
   obtain ⟨b,hb⟩:∃ b,bs[i]?=some b:=⟨_,List.getElem?_eq_getElem (by have:=BL.out;omega)⟩
   obtain ⟨c0,c1⟩:=(LW.out.next HBe.out).cell hy
   have KP:=hid (HP.out i y b hy hb wr HBe.out)
   have HY:=hid hb
   clear hy hb
   cases b with
   | true =>
    have FF:=hid (show (i:Int)=R from by rw [← RH.out];exact (fst_at HY.out HA.out).symm)
    go_wp2_with (go_at_call 100;(with_reducible refine Calls.mono KP.out ?_);rintro e w4 ⟨rfl,b4⟩;have B4:=hid b4;clear b4)
    go_returns
    exact ⟨by rw [FF.out];rfl,nextB HBe.out B4.out⟩
   | false =>
    have HN:=hid (show ∀ (j:Nat) b,j<i+1→bs[j]?=some b→b=false from fun j b hj hb=>by
     by_cases c:j=i
     ·subst c;rw [HY.out] at hb;injection hb with hb;exact hb.symm
     ·exact HA.out j b (by omega) hb)
    go_wp2_with (go_at_call 100;(with_reducible refine Calls.mono KP.out ?_);rintro e w4 ⟨rfl,b4⟩;have B4:=hid b4;clear b4)
    go_roundg (ys.length - (i+1))
    case measure=>omega
    case rel=>exact ⟨i+1,by omega,rfl,by rw [Int.natCast_add];rfl,nextB HBe.out B4.out,HN.out⟩
  ·have qi':¬ (i:Int)<(ys.length:Int):=by omega
   have FF:=hid (show -1=R from by
    rw [← RH.out]
    exact (fst_no fun j b hb=>HA.out j b (by have:=(List.getElem?_eq_some_iff.1 hb).1;have:=BL.out;omega) hb).symm)
   go_wp2_with fail
   go_returns
   exact ⟨by rw [FF.out];rfl,HBe.out⟩
set_option maxRecDepth 100000 in
set_option maxHeartbeats 8000000 in
theorem containsF (lb:Nat) (x:N2) (on:List ByteArray) {w:World} {g cap:Nat} {ys:List N2} {W:List Ln} (h:Lw w g cap ys W) (hn:ys.length≤10000) (hb:B2 w lb x) (hs:Sl w x.a x.m x.c (sv on)) (hl:on.length≤1000000) :
  Calls Tryz.prog 99 #[.slice (some ⟨g,0,none⟩) ys.length cap,.func (.func 100) #[] #[.pointer (some ⟨lb,0,none⟩)]] w fun e w'=>e=.returned (.bool (W.any fun v=>hasN on v.1))∧Below w.heap.size w w':=by
 have K:=hid (indexF (.pointer (some ⟨lb,0,none⟩)) h hn (W.map fun v=>hasN on v.1) (by rw [List.length_map,h.len]) (fun i y b hy hb2 V bV=>by
  rw [List.getElem?_map] at hb2
  cases hw:W[i]? with
  | none=>rw [hw] at hb2;cases hb2
  | some l =>
   rw [hw] at hb2
   injection hb2 with hb2
   have hb2:hasN on l.1=b:=hb2
   have:=isFree1_any lb x y on V (hb.next bV) (hs.below bV) hl
   rw [(h.el i y l hy hw).1,hb2] at this
   rw [(h.el i y l hy hw).1]
   exact this))
 have E:=hid (show decide (0≤fstI (W.map fun v=>hasN on v.1))=W.any fun v=>hasN on v.1 from by rw [fst_any,List.any_map];rfl)
 generalize fstI (W.map fun v=>hasN on v.1)=r at *
 generalize (W.any fun v=>hasN on v.1)=b at *
 clear h hb hs
 cases b with
 | true =>
  have q:(0:Int)≤r:=of_decide_eq_true E.out
  have qb:=E.out
  go_enter Tryz.func99,Tryz.ntmps99
  go_wp2_with (go_at_call 45;(with_reducible refine Calls.mono K.out ?_);rintro e w4 ⟨rfl,b4⟩;have B4:=hid b4;clear b4)
  go_returns
  exact ⟨rfl,B4.out⟩
 | false =>
  have q:¬ (0:Int)≤r:=of_decide_eq_false E.out
  have qb:=E.out
  go_enter Tryz.func99,Tryz.ntmps99
  go_wp2_with (go_at_call 45;(with_reducible refine Calls.mono K.out ?_);rintro e w4 ⟨rfl,b4⟩;have B4:=hid b4;clear b4)
  go_returns
  exact ⟨rfl,B4.out⟩
set_option maxRecDepth 100000 in
set_option maxHeartbeats 8000000 in
theorem isFree_any (y:N2) (l:Ln) {w:World} {g cap:Nat} {ys:List N2} {W:List Ln} (h:Lw w g cap ys W) (hn:ys.length≤10000) (hs:Sl w y.a y.m y.c (sv l.2)) (hl:l.2.length≤1000000) :
  Calls Tryz.prog 47 #[.agg #[.string y.n,.slice y.a y.m y.c],.slice (some ⟨g,0,none⟩) ys.length cap] w fun e w'=>e=.returned (.bool (freeW l W))∧Below w.heap.size w w':=by
 have B1:=hid (show Below w.heap.size w (w.alloc (.cells #[.string y.n,.slice y.a y.m y.c] 84)) from (Below.refl _ _).alloc (Nat.le_refl _) _)
 have K:=hid (containsF w.heap.size y l.2 (h.next B1.out) hn (B2.new w y) (hs.below B1.out) hl)
 unfold freeW
 generalize (W.any fun v=>hasN l.2 v.1)=b at *
 clear h hs
 go_enter Tryz.func47,Tryz.ntmps47
 go_upto_region 1 with fail
 generalize World.alloc w _=w1 at *
 go_wp2_with (go_at_call 99;(with_reducible refine Calls.mono K.out ?_);rintro e w4 ⟨rfl,b4⟩;have B4:=hid b4;clear b4)
 go_returns
 exact ⟨rfl,nextB B1.out B4.out⟩
set_option maxRecDepth 100000 in
set_option maxHeartbeats 8000000 in
theorem Sort1_any (wb:Nat) (y:N2) (l:Ln) {w:World} {g cap:Nat} {ys:List N2} {W:List Ln} (h:Lw w g cap ys W) (hn:ys.length≤10000) (hc:w.cell? ⟨wb,0,none⟩=some (.slice (some ⟨g,0,none⟩) ys.length cap)) (hs:Sl w y.a y.m y.c (sv l.2)) (hl:l.2.length≤1000000) :
  Calls Tryz.prog 46 #[.agg #[.string y.n,.slice y.a y.m y.c],.pointer (some ⟨wb,0,none⟩)] w fun e w'=>e=.returned (.bool (freeW l W))∧Below w.heap.size w w':=by
 have B1:=hid (show Below w.heap.size w (w.alloc (.cells #[.string y.n,.slice y.a y.m y.c] 84)) from (Below.refl _ _).alloc (Nat.le_refl _) _)
 have X1:=hid (B2.new w y)
 have C1:=hid (celB B1.out hc)
 have K:=hid (isFree_any y l (h.next B1.out) hn (hs.below B1.out) hl)
 clear h hc hs
 go_enter Tryz.func46,Tryz.ntmps46
 go_upto_region 1 with fail
 generalize World.alloc w _=w1 at *
 obtain ⟨p0,p1⟩:=X1.out
 have q0:=C1.out
 go_wp2_with (go_at_call 47;(with_reducible refine Calls.mono K.out ?_);rintro e w4 ⟨rfl,b4⟩;have B4:=hid b4;clear b4)
 go_returns
 exact ⟨rfl,nextB B1.out B4.out⟩
set_option maxRecDepth 100000 in
set_option maxHeartbeats 8000000 in
theorem indexS (cp:Value) {w:World} {g cap:Nat} {ys:List N2} {W:List Ln} (h:Lw w g cap ys W) (hn:ys.length≤10000) (bs:List Bool) (hbl:bs.length=ys.length)
  (hp:∀ (i:Nat) (y:N2) (b:Bool),ys[i]?=some y→bs[i]?=some b→∀ V,Below w.heap.size w V→Calls Tryz.prog 46 #[.agg #[.string y.n,.slice y.a y.m y.c],cp] V fun e V'=>e=.returned (.bool b)∧Below V.heap.size V V') :
  Calls Tryz.prog 45 #[.slice (some ⟨g,0,none⟩) ys.length cap,.func (.func 46) #[] #[cp]] w fun e w'=>e=.returned (.int .i64 (fstI bs))∧Below w.heap.size w w':=by
 have LW:=hid h
 have HP:=hid hp
 have BL:=hid hbl
 have KL:(ys.length:Int)≤10000:=by omega
 obtain ⟨R,hR⟩:∃ R,fstI bs=R:=⟨_,rfl⟩
 have RH:=hid hR
 rw [hR]
 clear h hn hp hR hbl
 go_enter Tryz.func45,Tryz.ntmps45
 go_wp2_with fail
 go_loopg [8,5] (ys.length) (fun g iv jv wr=>∃ i:Nat,i≤ys.length∧g=ys.length - i∧iv=.int .i64 (i:Nat)∧Hid (Below w.heap.size w wr)∧Hid (∀ (j:Nat) b,j<i→bs[j]?=some b→b=false))
 case atStart=>exact ⟨0,Nat.zero_le _,rfl,rfl,Below.refl _ _,fun j z hj=>by omega⟩
 case round =>
  obtain ⟨i,hi,rfl,rfl,HBe,HA⟩:=hrel
  by_cases qi:i<ys.length
  ·have qi':(i:Int)<(ys.length:Int):=by omega
   obtain ⟨y,hy⟩:∃ y,ys[i]?=some y:=⟨_,List.getElem?_eq_getElem qi⟩
   obtain ⟨b,hb⟩:∃ b,bs[i]?=some b:=⟨_,List.getElem?_eq_getElem (by have:=BL.out;omega)⟩
   obtain ⟨c0,c1⟩:=(LW.out.next HBe.out).cell hy
   have KP:=hid (HP.out i y b hy hb wr HBe.out)
   have HY:=hid hb
   clear hy hb
   cases b with
   | true =>
    have FF:=hid (show (i:Int)=R from by rw [← RH.out];exact (fst_at HY.out HA.out).symm)
    go_wp2_with (go_at_call 46;(with_reducible refine Calls.mono KP.out ?_);rintro e w4 ⟨rfl,b4⟩;have B4:=hid b4;clear b4)
    go_returns
    exact ⟨by rw [FF.out];rfl,nextB HBe.out B4.out⟩
   | false =>
    have HN:=hid (show ∀ (j:Nat) b,j<i+1→bs[j]?=some b→b=false from fun j b hj hb=>by
     by_cases c:j=i
     ·subst c;rw [HY.out] at hb;injection hb with hb;exact hb.symm
     ·exact HA.out j b (by omega) hb)
    go_wp2_with (go_at_call 46;(with_reducible refine Calls.mono KP.out ?_);rintro e w4 ⟨rfl,b4⟩;have B4:=hid b4;clear b4)
    go_roundg (ys.length - (i+1))
    case measure=>omega
    case rel=>exact ⟨i+1,by omega,rfl,by rw [Int.natCast_add];rfl,nextB HBe.out B4.out,HN.out⟩
  ·have qi':¬ (i:Int)<(ys.length:Int):=by omega
   have FF:=hid (show -1=R from by
    rw [← RH.out]
    exact (fst_no fun j b hb=>HA.out j b (by have:=(List.getElem?_eq_some_iff.1 hb).1;have:=BL.out;omega) hb).symm)
   go_wp2_with fail
   go_returns
   exact ⟨by rw [FF.out];rfl,HBe.out⟩
theorem indexW (wb:Nat) {w:World} {g cap:Nat} {ys:List N2} {W:List Ln} (h:Lw w g cap ys W) (hn:ys.length≤10000) (hc:w.cell? ⟨wb,0,none⟩=some (.slice (some ⟨g,0,none⟩) ys.length cap)) :
  Calls Tryz.prog 45 #[.slice (some ⟨g,0,none⟩) ys.length cap,.func (.func 46) #[] #[.pointer (some ⟨wb,0,none⟩)]] w fun e w'=>e=.returned (.int .i64 (fstI (W.map fun l=>freeW l W)))∧Below w.heap.size w w' :=
 indexS (.pointer (some ⟨wb,0,none⟩)) h hn (W.map fun l=>freeW l W) (by rw [List.length_map,h.len]) (fun i y b hy hb2 V bV=>by
  rw [List.getElem?_map] at hb2
  cases hw:W[i]? with
  | none=>rw [hw] at hb2;cases hb2
  | some l =>
   rw [hw] at hb2
   injection hb2 with hb2
   have hb2:freeW l W=b:=hb2
   obtain ⟨_,h2,h3,_⟩:=h.el i y l hy hw
   have:=Sort1_any wb y l (h.next bV) hn (celB bV hc) (h2.below bV) h3
   rw [hb2] at this
   exact this)
end Go.Proofs.YteknljnjcoehoaaGreatDoor
