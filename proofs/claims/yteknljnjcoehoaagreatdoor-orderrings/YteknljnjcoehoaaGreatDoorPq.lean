/- Parts of the proof. -/
import Derived.Test.YteknljnjcoehoaaGreatDoorPo
namespace Go.Proofs.YteknljnjcoehoaaGreatDoor
open Go.RowKit
set_option linter.unusedVariables false
set_option linter.unusedSimpArgs false
def rawR (ks:List Tr) (nm:ByteArray):List ByteArray :=
 match ks.find? (fun k=>eqB k.op ⟨#[114,117,108,101]⟩ && eqB k.name nm) with
 | none=>[]
 | some d=>lookAll (rnF ks) d
theorem srtN_nil:srtN []=[]:=by unfold srtN srtB;simp;rfl
theorem srtN_one (x:ByteArray):srtN [x]=[x]:=by
 have h:(Lib.compact [x.data.toList]:List (List UInt8))=[x.data.toList]:=Lib.compact_all _ (fun j hj=>by
  have:j=0:=by simp at hj;exact hj
  subst this
  simp [Lib.keeps])
 unfold srtN srtB
 simp [h]
theorem namR_raw (ks:List Tr) (nm:ByteArray):namR ks nm=srtN (rawR ks nm):=by
 unfold namR rawR
 cases ks.find? (fun k=>eqB k.op ⟨#[114,117,108,101]⟩ && eqB k.name nm) with
 | none=>exact srtN_nil.symm
 | some d=>rfl
theorem hasN_srt (l:List ByteArray) (x:ByteArray):hasN (srtN l) x=hasN l x:=by
 have h:=hasN_iff (srtN l) x
 have k:=hasN_iff l x
 rw [mem_srtN] at h
 cases a:hasN (srtN l) x <;> cases b:hasN l x <;> simp_all
def srtL (l:Ln):Ln:=(l.1,srtN l.2)
theorem free_srt (l:Ln) (W:List Ln):freeW (srtL l) (W.map srtL)=freeW l W:=by
 unfold freeW
 rw [List.any_map]
 congr 2
 funext w
 exact hasN_srt _ _
theorem sortF_srt:∀ (f:Nat) (W:List Ln) (acc:List ByteArray),sortF f (W.map srtL) acc=sortF f W acc
 | 0,W,acc=>rfl
 | f+1,W,acc=>by
  have e:(W.map srtL).findIdx? (fun l=>freeW l (W.map srtL))=W.findIdx? (fun l=>freeW l W):=by
   rw [List.findIdx?_map]
   congr 1
   funext l
   exact free_srt l W
  rw [sortF,sortF,e]
  cases W.findIdx? (fun l=>freeW l W) with
  | none=>rfl
  | some i =>
   show sortF f ((W.map srtL).eraseIdx i) _=sortF f (W.eraseIdx i) _
   have em:(W.map srtL).eraseIdx i=(W.eraseIdx i).map srtL:=by rw [List.eraseIdx_eq_take_drop_succ,List.eraseIdx_eq_take_drop_succ,List.map_append,List.map_take,List.map_drop]
   rw [em,sortF_srt f (W.eraseIdx i)]
   congr 2
   rw [List.getElem?_map]
   cases W[i]? <;> rfl
def rawL (ks:List Tr):List Ln:=(rnF ks).map fun r=>(r,rawR ks r)
def sorG (ks:List Tr):Option (List ByteArray):=sortF (rawL ks).length (rawL ks) []
theorem sorF_G (ks:List Tr):sorF ks=sorG ks:=by
 have e:leansF ks=(rawL ks).map srtL:=by
  unfold leansF rawL
  rw [List.map_map]
  apply List.map_congr_left
  intro r _
  show (r,namR ks r)=(r,srtN (rawR ks r))
  rw [namR_raw]
 unfold sorF sorG
 rw [e,List.length_map,sortF_srt]
def txB:List ByteArray→List ByteArray→Bool
 | [],[]=>true
 | x :: a,y :: b=>eqB x y && txB a b
 | _,_=>false
theorem txB_iff:∀ a b:List ByteArray,txB a b=true ↔ a=b
 | [],[]=>by simp [txB]
 | [],y :: b=>by simp [txB]
 | x :: a,[]=>by simp [txB]
 | x :: a,y :: b=>by
  rw [txB,Bool.and_eq_true,txB_iff a b]
  constructor
  ·rintro ⟨h,rfl⟩;rw [eqB_eqX h]
  ·intro h;injection h with h1 h2;subst h1 h2;exact ⟨by unfold eqB;simp,rfl⟩
theorem txB_len {a b:List ByteArray} (h:a.length≠b.length):txB a b=false:=by
 cases q:txB a b with
 | true=>exact absurd (by rw [(txB_iff a b).1 q]) h
 | false=>rfl
set_option maxRecDepth 100000 in
set_option maxHeartbeats 8000000 in
theorem Texts_any {w:World} {a1 a2:Option Addr} {n1 n2 c1 c2:Nat} {l1 l2:List ByteArray} (h1:Sl w a1 n1 c1 (sv l1)) (h2:Sl w a2 n2 c2 (sv l2)) (hl:l1.length≤1000000) (hl2:l2.length≤1000000) :
  Calls Tryz.prog 23 #[.slice a1 n1 c1,.slice a2 n2 c2] w fun e w'=>e=.returned (.bool (txB l1 l2))∧Below w.heap.size w w':=by
 obtain rfl:l1.length=n1:=h1.slen
 obtain rfl:l2.length=n2:=h2.slen
 have S1:=hid h1
 have S2:=hid h2
 have KL:(l1.length:Int)≤1000000:=by omega
 have KL2:(l2.length:Int)≤1000000:=by omega
 obtain ⟨R,hR⟩:∃ R,txB l1 l2=R:=⟨_,rfl⟩
 have RH:=hid hR
 rw [hR]
 clear h1 h2 hl hl2 hR
 by_cases q:l1.length=l2.length
 ·have q':((l1.length:Int)==(l2.length:Int))=true:=by simp;omega
  have q2:((l1.length:Int) != (l2.length:Int))=false:=by simp;omega
  have LE:=hid q
  clear q
  go_enter Tryz.func23,Tryz.ntmps23
  go_wp2_with fail
  go_loopg [5] (l1.length) (fun g iv wr=>∃ i:Nat,i≤l1.length∧g=l1.length - i∧iv=.int .i64 (i:Nat)∧Hid (Below w.heap.size w wr)∧Hid (txB (l1.drop i) (l2.drop i)=R))
  case atStart=>exact ⟨0,Nat.zero_le _,rfl,rfl,Below.refl _ _,RH.out⟩
  case round =>
   obtain ⟨i,hi,rfl,rfl,HBe,HA⟩:=hrel
   by_cases qi:i<l1.length
   ·have qi':(i:Int)<(l1.length:Int):=by omega
    have qi2:(i:Int)<(l2.length:Int):=by have:=LE.out;omega
    obtain ⟨g,o,rfl,_⟩:=S1.out.at (by omega)
    obtain ⟨g2,o2,rfl,_⟩:=S2.out.at (by have:=LE.out;omega)
    have cc:=celB HBe.out (S1.out.str qi)
    have cd:=celB HBe.out (S2.out.str (show i<l2.length from by have:=LE.out;omega))
    obtain ⟨x,hx⟩:∃ x,l1[i]?=some x:=⟨_,List.getElem?_eq_getElem qi⟩
    obtain ⟨y,hy⟩:∃ y,l2[i]?=some y:=⟨_,List.getElem?_eq_getElem (by have:=LE.out;omega)⟩
    have hx2:l1.getD i ByteArray.empty=x:=by rw [List.getD_eq_getElem?_getD,hx];rfl
    have hy2:l2.getD i ByteArray.empty=y:=by rw [List.getD_eq_getElem?_getD,hy];rfl
    rw [hx2] at cc
    rw [hy2] at cd
    have HN:=hid (show (eqB x y && txB (l1.drop (i+1)) (l2.drop (i+1)))=R from by
     obtain ⟨p1,p2⟩:=List.getElem?_eq_some_iff.1 hx
     obtain ⟨p3,p4⟩:=List.getElem?_eq_some_iff.1 hy
     rw [← HA.out,List.drop_eq_getElem_cons p1,List.drop_eq_getElem_cons p3,p2,p4,txB])
    clear hx hy hx2 hy2
    cases z:eqB x y with
    | true =>
     have z1:(x.toList==y.toList)=true:=(eqB_is _ _).trans z
     have z2:(x.toList != y.toList)=false:=by unfold bne;rw [z1];rfl
     have FF:=hid (show txB (l1.drop (i+1)) (l2.drop (i+1))=R from by rw [← HN.out,z];rfl)
     clear z
     go_upto_region 6 with fail
     go_quiet (fail)
     go_wp2_with fail
     go_roundg (l1.length - (i+1))
     case measure=>omega
     case rel=>exact ⟨i+1,by omega,rfl,by rw [Int.natCast_add];rfl,nextB HBe.out (drewN_below wr _),FF.out⟩
    | false =>
     have z1:(x.toList==y.toList)=false:=(eqB_is _ _).trans z
     have z2:(x.toList != y.toList)=true:=by unfold bne;rw [z1];rfl
     have FF:=hid (show R=false from by rw [← HN.out,z];rfl)
     clear z
     go_upto_region 6 with fail
     go_quiet (fail)
     go_wp2_with fail
     go_returns
     exact ⟨by rw [FF.out];rfl,nextB HBe.out (drewN_below wr _)⟩
   ·have qi':¬ (i:Int)<(l1.length:Int):=by omega
    have FF:=hid (show R=true from by rw [← HA.out,List.drop_eq_nil_of_le (by omega),List.drop_eq_nil_of_le (by have:=LE.out;omega)];rfl)
    go_wp2_with fail
    go_returns
    exact ⟨by rw [FF.out];rfl,HBe.out⟩
 ·have q':((l1.length:Int)==(l2.length:Int))=false:=beqI _ _ (by omega)
  have q2:((l1.length:Int) != (l2.length:Int))=true:=by unfold bne;rw [q'];rfl
  have FF:=hid (show R=false from by rw [← RH.out];exact txB_len q)
  clear q
  go_enter Tryz.func23,Tryz.ntmps23
  go_wp2_with fail
  go_returns
  exact ⟨by rw [FF.out];rfl,Below.refl _ _⟩
theorem Ow.row_sl {w:World} {T:TypeId} {B:Nat} {a:Option Addr} {n c:Nat} {l:List ByteArray} (h:Ow w T B (.slice a n c) (sv l)):Sl w a n c (sv l):=by
 obtain ⟨a2,c2',e,s,_,_⟩:=h.sl
 injection e with e1 e2 e3
 subst e1 e2 e3
 exact s
theorem sl_news (w:World) (l:List ByteArray) (hl:l.length≤1000):Sl (w.alloc (.cells (sv l).toArray 9)) (some ⟨w.heap.size,0,none⟩) l.length l.length (sv l):=by
 have h:=(ow_new w 9 (sv l) (sv_one l) (by rw [sv_len];omega)).row_sl
 rw [sv_len] at h
 exact h
def txo:ByteArray:=⟨#[114,117,108,101,32,97,32,99,111,117,110,116,32,61,32,49,32,43,32,98,59,32,114,117,108,101,32,98,32,99,111,117,110,116,32,61,32,50,59]⟩
theorem txo_ok:okX txo=true∧ckF (trX txo).kids=none∧sorG (trX txo).kids=some [⟨#[98]⟩,⟨#[97]⟩]∧sumS (expF (trX txo).kids)=8∧maxD (expF (trX txo).kids)=2∧rawR (trX txo).kids ⟨#[97]⟩=[⟨#[98]⟩]:=by decide +kernel
theorem sort_good {ks:List Tr} {l:List ByteArray} (h1:ckF ks=none) (h2:sorG ks=some l):sortR ks=some l:=by unfold sortR;rw [h1,sorF_G,h2];rfl
theorem sort_bad {ks:List Tr} {a:Nat} (h1:ckF ks=some a):sortR ks=none:=by unfold sortR;rw [h1];rfl
theorem sort_ring {ks:List Tr} (h1:ckF ks=none) (h2:sorG ks=none):sortR ks=none:=by unfold sortR;rw [h1,sorF_G,h2];rfl
theorem step_good {ks:List Tr} {l:List ByteArray} (h:sortR ks=some l) (hs:sumS (expF ks)≤1099511627776):stepR ks=(sumS (expF ks),0):=by unfold stepR;rw [h];show (if _ then _ else _)=_;rw [if_neg (by omega)]
theorem step_bad {ks:List Tr} (h:sortR ks=none):stepR ks=(0,8):=by unfold stepR;rw [h]
theorem deep_good2 {ks:List Tr} (h:(stepR ks).2=0):deepR ks=(maxD (expF ks),0):=by unfold deepR;rw [if_pos h]
theorem deep_bad {ks:List Tr} (h:stepR ks=(0,8)):deepR ks=(0,8):=by unfold deepR;rw [h];rfl
theorem txo_all:sortR (trX txo).kids=some [⟨#[98]⟩,⟨#[97]⟩]∧stepR (trX txo).kids=(8,0)∧deepR (trX txo).kids=(2,0)∧namR (trX txo).kids ⟨#[97]⟩=[⟨#[98]⟩]:=by
 have h:=txo_ok
 have s:=sort_good h.2.1 h.2.2.1
 have st:stepR (trX txo).kids=(8,0):=by rw [step_good s (by rw [h.2.2.2.1];omega),h.2.2.2.1]
 exact ⟨s,st,by rw [deep_good2 (by rw [st]),h.2.2.2.2.1],by rw [namR_raw,h.2.2.2.2.2,srtN_one]⟩
set_option maxRecDepth 100000 in
set_option maxHeartbeats 8000000 in
theorem awake_any (w:World) (hT:TabM w):Calls Tryz.prog 15 #[] w fun e w'=>e=.returned (.bool true)∧Below w.heap.size w w':=by
 have K1:=hid (read_any txo w (by decide))
 have G1:=hid (good_tr txo_ok.1)
 have L1:=hid (len_tr (t:=txo) (by decide))
 have D1:=hid (show nodT (trX txo)≤90000 from Nat.le_trans (nod_tr (t:=txo) (by decide)) (by decide))
 have C1:=hid txo_all
 have O1:=txo_ok.1
 unfold RdX at K1
 rw [O1] at K1
 clear O1
 generalize trX txo=t at *
 have KS:=hid (fun W (b:Below w.heap.size w W) S v hd=>Sort_any t G1.out.1 G1.out.2 L1.out D1.out S W v hd (hT.next b))
 have KT:=hid (fun W (b:Below w.heap.size w W) S v hd=>Steps_any t G1.out.1 G1.out.2 L1.out D1.out S W v hd (hT.next b))
 have KD:=hid (fun W (b:Below w.heap.size w W) S v hd=>Deep_any t G1.out.1 G1.out.2 L1.out D1.out S W v hd (hT.next b))
 have KN:=hid (fun W S v hd=>Names_any t G1.out.2 L1.out D1.out ⟨#[97]⟩ S W v hd)
 unfold SoP at KS
 unfold NmP at KN
 rw [C1.out.1] at KS
 rw [C1.out.2.1] at KT
 rw [C1.out.2.2.1] at KD
 rw [C1.out.2.2.2] at KN
 dsimp only [errS,Option.getD_some] at KS KT KD
 clear hT
 unfold txo at K1
 go_enter Tryz.func15,Tryz.ntmps15
 go_upto_region 2 with (go_at_call 16;(with_reducible refine Calls.mono K1.out ?_);rintro e w2 ⟨b2,sa2,sb2,sm2,sc2,sn2,sd2,rfl,n2,m2⟩;have B2:=hid b2;have N2:=hid n2;clear b2 n2 m2)
 have B3:=hid (nextB B2.out (show Below w2.heap.size w2 ((w2.alloc (.cells #[.string t.op,.string t.name,.int .i64 (t.kind:Nat),.int .i64 t.n,.int .i64 (t.pl:Nat),.slice sa2 sm2 sc2] 26)).alloc (.cells #[.string t.op,.string t.name,.int .i64 (t.kind:Nat),.int .i64 t.n,.int .i64 (t.pl:Nat),.slice sb2 sn2 sd2] 29)) from ((Below.refl _ _).alloc (Nat.le_refl _) _).alloc (by simp) _))
 have X3:=hid (show B6 ((w2.alloc (.cells #[.string t.op,.string t.name,.int .i64 (t.kind:Nat),.int .i64 t.n,.int .i64 (t.pl:Nat),.slice sa2 sm2 sc2] 26)).alloc (.cells #[.string t.op,.string t.name,.int .i64 (t.kind:Nat),.int .i64 t.n,.int .i64 (t.pl:Nat),.slice sb2 sn2 sd2] 29)) w2.heap.size (.string t.op) (.string t.name) (.int .i64 (t.kind:Nat)) (.int .i64 t.n) (.int .i64 (t.pl:Nat)) (.slice sa2 sm2 sc2) from (B6.new w2 26 (.string t.op) (.string t.name) (.int .i64 (t.kind:Nat)) (.int .i64 t.n) (.int .i64 (t.pl:Nat)) (.slice sa2 sm2 sc2)).next ((Below.refl _ _).alloc (Nat.le_refl _) _))
 have N3:=hid (N2.out.gwY (show Below w2.heap.size w2 ((w2.alloc (.cells #[.string t.op,.string t.name,.int .i64 (t.kind:Nat),.int .i64 t.n,.int .i64 (t.pl:Nat),.slice sa2 sm2 sc2] 26)).alloc (.cells #[.string t.op,.string t.name,.int .i64 (t.kind:Nat),.int .i64 t.n,.int .i64 (t.pl:Nat),.slice sb2 sn2 sd2] 29)) from ((Below.refl _ _).alloc (Nat.le_refl _) _).alloc (by simp) _))
 generalize World.alloc (World.alloc w2 _) _=w3 at *
 generalize w2.heap.size=q3 at *
 have k1:=hid (KS.out w3 B3.out _ _ N3.out)
 obtain ⟨x0,x1,x2,x3,x4,x5,xz⟩:=X3.out
 go_upto_region 3 with (go_at_call 17;(with_reducible refine Calls.mono k1.out ?_);rintro e w4 ⟨v4,rfl,o4,b4⟩;have B4:=hid (nextB B3.out b4);have X4:=hid (X3.out.next b4);have N4:=hid (N3.out.gwY b4);obtain ⟨a4,c4,ev4⟩:=own_slice o4.row;rw [sv_len] at ev4;subst ev4;have O4:=hid o4;clear b4 o4)
 clear x0 x1 x2 x3 x4 x5 xz k1 X3 N3
 have k2:=hid (KT.out w4 B4.out _ _ N4.out)
 obtain ⟨x0,x1,x2,x3,x4,x5,xz⟩:=X4.out
 go_upto_region 4 with (go_at_call 18;(with_reducible refine Calls.mono k2.out ?_);rintro e w5 ⟨rfl,b5⟩;have B5:=hid (nextB B4.out b5);have X5:=hid (X4.out.next b5);have N5:=hid (N4.out.gwY b5);have O5:=hid (O4.out.below b5);clear b5)
 clear x0 x1 x2 x3 x4 x5 xz k2 X4 N4 O4
 have k3:=hid (KD.out w5 B5.out _ _ N5.out)
 obtain ⟨x0,x1,x2,x3,x4,x5,xz⟩:=X5.out
 go_upto_region 5 with (go_at_call 19;(with_reducible refine Calls.mono k3.out ?_);rintro e w6 ⟨rfl,b6⟩;have B6':=hid (nextB B5.out b6);have X6:=hid (X5.out.next b6);have N6:=hid (N5.out.gwY b6);have O6:=hid (O5.out.below b6);clear b6)
 clear x0 x1 x2 x3 x4 x5 xz k3 X5 N5 O5
 have k4:=hid (KN.out w6 _ _ N6.out)
 obtain ⟨x0,x1,x2,x3,x4,x5,xz⟩:=X6.out
 go_upto_region 6 with (go_at_call 20;(with_reducible refine Calls.mono k4.out ?_);rintro e w7 ⟨v7,rfl,o7,b7⟩;have B7:=hid (nextB B6'.out b7);have O7:=hid (O6.out.below b7);obtain ⟨a7,c7,ev7⟩:=own_slice o7.row;rw [sv_len] at ev7;subst ev7;have P7:=hid o7;clear b7 o7)
 clear x0 x1 x2 x3 x4 x5 xz k4 X6 N6 O6
 have BA:=hid (show Below w7.heap.size w7 (w7.alloc (.cells #[.string ⟨#[98]⟩,.string ⟨#[97]⟩] 9)) from (Below.refl _ _).alloc (Nat.le_refl _) _)
 have k5:=hid (Texts_any (O7.out.row_sl.below BA.out) (sl_news w7 [⟨#[98]⟩,⟨#[97]⟩] (by decide)) (by decide) (by decide))
 rw [show txB [⟨#[98]⟩,⟨#[97]⟩] [⟨#[98]⟩,⟨#[97]⟩]=true from rfl] at k5
 have k6:=hid (fun W (b:Below w7.heap.size w7 W)=>Texts_any ((P7.out.row_sl.below b).below (show Below W.heap.size W (W.alloc (.cells #[.string ⟨#[98]⟩] 9)) from (Below.refl _ _).alloc (Nat.le_refl _) _)) (sl_news W [⟨#[98]⟩] (by decide)) (by decide) (by decide))
 rw [show txB [⟨#[98]⟩] [⟨#[98]⟩]=true from rfl] at k6
 go_wp2_with (first | (go_at_call 23;(with_reducible refine Calls.mono k5.out ?_);rintro e w8 ⟨rfl,b8⟩;clear k5;have B8:=hid (nextB BA.out b8);clear b8;have k7:=hid (k6.out w8 B8.out);clear k6) | (go_at_call 23;(with_reducible refine Calls.mono k7.out ?_);rintro e w9 ⟨rfl,b9⟩;have B9:=hid (nextB (nextB B8.out ((Below.refl _ _).alloc (Nat.le_refl _) _)) b9);clear b9))
 go_returns
 exact ⟨rfl,nextB B7.out B9.out⟩
end Go.Proofs.YteknljnjcoehoaaGreatDoor
