/- Parts of the proof. -/
import Derived.Test.YtbeahnehjannpaaDoorJi
namespace Go.Proofs.YtbeahnehjannpaaDoor
open Go.RowKit
set_option linter.unusedVariables false
set_option linter.unusedSimpArgs false
def ExC (t:Tr):Prop:=∀ (S:Nat→Prop) (w:World) (v:Value),TabU w→Nv w S v t→Calls Tryd.prog 10 #[v] w fun e w'=>FdP (fdE t) w e w'
theorem stp_u1 {op nm:ByteArray} {kd:Nat} {n:Int} {pl:Nat} {X:Tr} (h:un2 op=true) (q:ltB X=true):stpE (.nd op nm kd n pl [X])=reckE (.nd op nm kd n pl [X]) X Tr.zero:=by
 show (if (un2 op && ltB X)=true then _ else _)=_
 rw [if_pos (by rw [h,q];rfl)]
theorem stp_u2 {op nm:ByteArray} {kd:Nat} {n:Int} {pl:Nat} {X:Tr} (h:un2 op=true) (q:ltB X=false):stpE (.nd op nm kd n pl [X])=.nd op nm kd n pl [X]:=by
 show (if (un2 op && ltB X)=true then _ else _)=_
 rw [if_neg (by rw [h,q];simp)]
theorem stp_b1 {op nm:ByteArray} {kd:Nat} {n:Int} {pl:Nat} {X Y:Tr} (h:bin12 op=true) (q:ltB X=true) (r:ltB Y=true):stpE (.nd op nm kd n pl [X,Y])=reckE (.nd op nm kd n pl [X,Y]) X Y:=by
 show (if bin12 op=true then (if (ltB X && ltB Y)=true then _ else _) else _)=_
 rw [if_pos h,if_pos (by rw [q,r];rfl)]
theorem stp_b2 {op nm:ByteArray} {kd:Nat} {n:Int} {pl:Nat} {X Y:Tr} (h:bin12 op=true) (q:ltB X=true) (r:ltB Y=false):stpE (.nd op nm kd n pl [X,Y])=.nd op nm kd n pl [X,Y]:=by
 show (if bin12 op=true then (if (ltB X && ltB Y)=true then _ else _) else _)=_
 rw [if_pos h,if_neg (by rw [q,r];simp)]
theorem stp_b3 {op nm:ByteArray} {kd:Nat} {n:Int} {pl:Nat} {X Y:Tr} (h:bin12 op=true) (q:ltB X=false):stpE (.nd op nm kd n pl [X,Y])=.nd op nm kd n pl [X,Y]:=by
 show (if bin12 op=true then (if (ltB X && ltB Y)=true then _ else _) else _)=_
 rw [if_pos h,if_neg (by rw [q];simp)]
theorem stp_c0 {op nm:ByteArray} {kd:Nat} {n:Int} {pl:Nat} {X Y:Tr} (h:bin12 op=false) (h2:con2 op=true) (q:ltB X=true):stpE (.nd op nm kd n pl [X,Y])=if (X.n==1)==eqB op ⟨#[111,114]⟩ then X else Y:=by
 show (if bin12 op=true then _ else if (con2 op && ltB X)=true then _ else _)=_
 rw [if_neg (by rw [h];simp),if_pos (by rw [h2,q];rfl)]
 rfl
theorem stp_and {nm:ByteArray} {kd:Nat} {n:Int} {pl:Nat} {X Y:Tr} (q:ltB X=true):stpE (.nd ⟨#[97,110,100]⟩ nm kd n pl [X,Y])=if ¬ X.n=1 then X else Y:=by
 rw [stp_c0 rfl rfl q]
 by_cases h:X.n=1
 ·rw [h];rfl
 ·rw [beqM _ _ h,if_pos h];rfl
theorem stp_or {nm:ByteArray} {kd:Nat} {n:Int} {pl:Nat} {X Y:Tr} (q:ltB X=true):stpE (.nd ⟨#[111,114]⟩ nm kd n pl [X,Y])=if X.n=1 then X else Y:=by
 rw [stp_c0 rfl rfl q]
 by_cases h:X.n=1
 ·rw [h];rfl
 ·rw [beqM _ _ h,if_neg h];rfl
theorem stp_c2 {op nm:ByteArray} {kd:Nat} {n:Int} {pl:Nat} {X Y:Tr} (h:bin12 op=false) (q:ltB X=false):stpE (.nd op nm kd n pl [X,Y])=.nd op nm kd n pl [X,Y]:=by
 show (if bin12 op=true then _ else if (con2 op && ltB X)=true then _ else _)=_
 rw [if_neg (by rw [h];simp),if_neg (by rw [q];simp)]
theorem stp_i1 {nm:ByteArray} {kd:Nat} {n:Int} {pl:Nat} {X Y Z:Tr} (q:ltB X=true):stpE (.nd ⟨#[105,102]⟩ nm kd n pl [X,Y,Z])=if X.n=1 then Y else Z:=by
 show (if (eqB ⟨#[105,102]⟩ ⟨#[105,102]⟩ && ltB X)=true then (if (X.n==1)=true then Y else Z) else _)=_
 rw [if_pos (by rw [q];rfl)]
 by_cases h:X.n=1
 ·rw [h];rfl
 ·rw [beqM _ _ h,if_neg h];rfl
theorem stp_i2 {nm:ByteArray} {kd:Nat} {n:Int} {pl:Nat} {X Y Z:Tr} (q:ltB X=false):stpE (.nd ⟨#[105,102]⟩ nm kd n pl [X,Y,Z])=.nd ⟨#[105,102]⟩ nm kd n pl [X,Y,Z]:=by
 show (if (eqB ⟨#[105,102]⟩ ⟨#[105,102]⟩ && ltB X)=true then _ else _)=_
 rw [if_neg (by rw [q];simp)]
theorem Nd.k0 {w:World} {S:Nat→Prop} {v:Value} (h:Nd w S v []):v=.slice none 0 0:=by
 cases h with
 | nil=>rfl
 | row g c ts sl hs h0 hc hk=>exact absurd rfl h0
theorem Nd.k1 {w:World} {S:Nat→Prop} {v:Value} {X:Tr} (h:Nd w S v [X]):∃ (g c:Nat) (a0:Option Addr) (m0 c0:Nat),v=.slice (some ⟨g,0,none⟩) 1 c∧S g∧NC w g 0 X (.slice a0 m0 c0)∧Nd w S (.slice a0 m0 c0) X.kids:=by
 cases h with
 | row g c ts sl hs h0 hc hk =>
  have n0:=hc 0 X rfl
  have d0:=hk 0 X rfl
  obtain ⟨a0,m0,c0,e0⟩:=d0.slice
  rw [e0] at n0 d0
  exact ⟨_,_,_,_,_,rfl,hs,n0,d0⟩
theorem Nd.k2 {w:World} {S:Nat→Prop} {v:Value} {X Y:Tr} (h:Nd w S v [X,Y]):∃ (g c:Nat) (a0:Option Addr) (m0 c0:Nat) (a1:Option Addr) (m1 c1:Nat),v=.slice (some ⟨g,0,none⟩) 2 c∧S g∧NC w g 0 X (.slice a0 m0 c0)∧NC w g 6 Y (.slice a1 m1 c1)∧Nd w S (.slice a0 m0 c0) X.kids∧Nd w S (.slice a1 m1 c1) Y.kids:=by
 cases h with
 | row g c ts sl hs h0 hc hk =>
  have n0:=hc 0 X rfl
  have d0:=hk 0 X rfl
  obtain ⟨a0,m0,c0,e0⟩:=d0.slice
  rw [e0] at n0 d0
  have n1:=hc 1 Y rfl
  have d1:=hk 1 Y rfl
  obtain ⟨a1,m1,c1,e1⟩:=d1.slice
  rw [e1] at n1 d1
  exact ⟨_,_,_,_,_,_,_,_,rfl,hs,n0,n1,d0,d1⟩
theorem Nd.k3 {w:World} {S:Nat→Prop} {v:Value} {X Y Z:Tr} (h:Nd w S v [X,Y,Z]):∃ (g c:Nat) (a0:Option Addr) (m0 c0:Nat) (a1:Option Addr) (m1 c1:Nat) (a2:Option Addr) (m2 c2:Nat),v=.slice (some ⟨g,0,none⟩) 3 c∧S g∧NC w g 0 X (.slice a0 m0 c0)∧NC w g 6 Y (.slice a1 m1 c1)∧NC w g 12 Z (.slice a2 m2 c2)∧Nd w S (.slice a0 m0 c0) X.kids∧Nd w S (.slice a1 m1 c1) Y.kids∧Nd w S (.slice a2 m2 c2) Z.kids:=by
 cases h with
 | row g c ts sl hs h0 hc hk =>
  have n0:=hc 0 X rfl
  have d0:=hk 0 X rfl
  obtain ⟨a0,m0,c0,e0⟩:=d0.slice
  rw [e0] at n0 d0
  have n1:=hc 1 Y rfl
  have d1:=hk 1 Y rfl
  obtain ⟨a1,m1,c1,e1⟩:=d1.slice
  rw [e1] at n1 d1
  have n2:=hc 2 Z rfl
  have d2:=hk 2 Z rfl
  obtain ⟨a2,m2,c2,e2⟩:=d2.slice
  rw [e2] at n2 d2
  exact ⟨_,_,_,_,_,_,_,_,_,_,_,rfl,hs,n0,n1,n2,d0,d1,d2⟩
def ops12b:List ByteArray:=[⟨#[43]⟩,⟨#[45]⟩,⟨#[42]⟩,⟨#[47]⟩,⟨#[60]⟩,⟨#[60,61]⟩,⟨#[62]⟩,⟨#[62,61]⟩,⟨#[61,61]⟩,⟨#[33,61]⟩,⟨#[109,105,110]⟩,⟨#[109,97,120]⟩]
set_option maxRecDepth 100000 in
set_option maxHeartbeats 8000000 in
theorem ex_un (op:ByteArray) (ho:op=⟨#[110,101,103]⟩∨op=⟨#[110,111,116]⟩) (nm:ByteArray) (kd:Nat) (n:Int) (pl:Nat) (x:Tr) (hb:∀ k,k ∈ ([x]:List Tr)→BdN (fdE k).n) (ih:∀ k,k ∈ ([x]:List Tr)→ExC k):ExC (.nd op nm kd n pl [x]):=by
 have TT:un2 op=true∧op ∈ ops14∧((op.toList==[110,101,103])=true∨(op.toList==[110,101,103])=false∧(op.toList==[110,111,116])=true):=by
  rcases ho with rfl | rfl <;> exact ⟨rfl,by simp [ops14],by simp [eqL,eqB]⟩
 obtain ⟨hb12,h14,TT⟩:=TT
 clear ho
 rcases TT with z0 | ⟨z0,z1⟩
 all_goals
  intro S w v hT hv
  obtain ⟨se,rfl,hd⟩:=hv
  obtain ⟨sa,sc,rfl⟩:=hd.len2
  replace hd:Nd w S (.slice sa 1 sc) [x]:=hd
  show Calls _ _ #[.agg #[.string op,.string nm,.int .i64 (kd:Nat),.int .i64 n,.int .i64 (pl:Nat),.slice sa 1 sc]] _ _
  have sz1:(w.alloc (.cells #[.string op,.string nm,.int .i64 (kd:Nat),.int .i64 n,.int .i64 (pl:Nat),.slice sa 1 sc] 28)).heap.size=w.heap.size+1:=by simp
  have A1:=hid (show Below w.heap.size w ((w.alloc (.cells #[.string op,.string nm,.int .i64 (kd:Nat),.int .i64 n,.int .i64 (pl:Nat),.slice sa 1 sc] 28)).alloc (.cells #[.string ⟨#[]⟩,.string ⟨#[]⟩,.int .i64 0,.int .i64 0,.int .i64 0,.slice none 0 0] 28)) from ((Below.refl _ _).alloc (Nat.le_refl _) _).alloc (by simp) _)
  have X1:=hid (show B6 ((w.alloc (.cells #[.string op,.string nm,.int .i64 (kd:Nat),.int .i64 n,.int .i64 (pl:Nat),.slice sa 1 sc] 28)).alloc (.cells #[.string ⟨#[]⟩,.string ⟨#[]⟩,.int .i64 0,.int .i64 0,.int .i64 0,.slice none 0 0] 28)) w.heap.size (.string op) (.string nm) (.int .i64 (kd:Nat)) (.int .i64 n) (.int .i64 (pl:Nat)) (.slice sa 1 sc) from by
   have h:=(B6.new w 28 (.string op) (.string nm) (.int .i64 (kd:Nat)) (.int .i64 n) (.int .i64 (pl:Nat)) (.slice sa 1 sc)).next ((Below.refl _ _).alloc (Nat.le_refl _) (.cells #[.string ⟨#[]⟩,.string ⟨#[]⟩,.int .i64 0,.int .i64 0,.int .i64 0,.slice none 0 0] 28))
   exact h)
  have X2:=hid (show B6 ((w.alloc (.cells #[.string op,.string nm,.int .i64 (kd:Nat),.int .i64 n,.int .i64 (pl:Nat),.slice sa 1 sc] 28)).alloc (.cells #[.string ⟨#[]⟩,.string ⟨#[]⟩,.int .i64 0,.int .i64 0,.int .i64 0,.slice none 0 0] 28)) (w.heap.size+1) (.string ⟨#[]⟩) (.string ⟨#[]⟩) (.int .i64 0) (.int .i64 0) (.int .i64 0) (.slice none 0 0) from by
   have h:=B6.new (w.alloc (.cells #[.string op,.string nm,.int .i64 (kd:Nat),.int .i64 n,.int .i64 (pl:Nat),.slice sa 1 sc] 28)) 28 (.string ⟨#[]⟩) (.string ⟨#[]⟩) (.int .i64 0) (.int .i64 0) (.int .i64 0) (.slice none 0 0)
   rw [sz1] at h
   exact h)
  clear sz1
  have HD1:=hid (hd.any A1.out)
  have T1:=hid (hT.next A1.out)
  have KE:=hid (show ∀ W,TabU W→Nd W S (.slice sa 1 sc) [x]→Calls Tryd.prog 16 #[.slice sa 1 sc,.func (.func 10) #[] #[]] W fun e w'=>∃ v',e=.returned v'∧Nd w' (fun g=>W.heap.size≤g) v' [fdE x]∧Below W.heap.size W w' from fun W hT hW=>each_fold_Expr fdE [x] S W (.slice sa 1 sc) hW (by simp) hT (fun k hk w1 v1 hT1 hv1=>ih k hk S w1 v1 hT1 hv1))
  have M0:=hid (hb x (by simp))
  have E0:=hid (show fdE (.nd op nm kd n pl [x])=stpE (.nd op nm kd n pl [fdE x]) from by rw [fdE];rw [fdL,fdL])
  generalize fdE (.nd op nm kd n pl [x])=RT at *
  have TG:=hid (show 0<w.heap.size from hT.1)
  clear hd hT hb ih
  go_enter Tryd.func10,Tryd.ntmps10
  go_upto_region 1 with fail
  generalize World.alloc (World.alloc w _) _=w1 at *
  have P3:=hid (show w.heap.size≤w.heap.size+1 by omega)
  have PX:=hid (show w.heap.size≠w.heap.size+1 by omega)
  have P2L:=hid X2.out.lt
  have P1L:=hid X1.out.lt
  generalize w.heap.size+1=p2 at *
  obtain ⟨c0,c1,c2',c3,c4,c5,cf⟩:=X1.out
  go_upto_region 2 with (go_at_call 16;with_reducible refine Calls.mono (KE.out _ T1.out HD1.out) ?_;rintro e9 w2 ⟨v2,rfl,nq,b2⟩;have B2:=hid b2;have ND2:=hid nq;obtain ⟨g2,c2,a0,m0,u0,rfl,sg,n0,d0⟩:=Nd.k1 nq;have SG:=hid sg;have NN0:=hid n0;have DD0:=hid d0;clear n0 d0;clear sg;clear nq b2 c0 c1 c2' c3 c4 c5 cf;obtain ⟨c0,c1,c2',c3,c4,c5,cf⟩:=X1.out.next B2.out)
  clear c0 c1 c2' c3 c4 c5 cf KE
  have HK:=hid (show ∀ g,w1.heap.size≤g→(w2.setCell ⟨w.heap.size,5,none⟩ (.slice (some ⟨g2,0,none⟩) 1 c2)).heap[g]?=w2.heap[g]? from fun g hg=>Below.heap_setCell w2 ⟨w.heap.size,5,none⟩ (.slice (some ⟨g2,0,none⟩) 1 c2) g (by have:=P1L.out;show g≠w.heap.size;omega))
  have Y3:=hid ((X1.out.next B2.out).set5 (.slice (some ⟨g2,0,none⟩) 1 c2))
  have R3:=hid ((X2.out.next B2.out).put (q:=w.heap.size) (i:=5) (by have:=PX.out;omega) (.slice (some ⟨g2,0,none⟩) 1 c2))
  have A3:=hid ((nextB A1.out B2.out).setCell (p:=⟨w.heap.size,5,none⟩) (Nat.le_refl _) (.slice (some ⟨g2,0,none⟩) 1 c2))
  have T3:=hid ((T1.out.next B2.out).keep (w':=w2.setCell ⟨w.heap.size,5,none⟩ (.slice (some ⟨g2,0,none⟩) 1 c2)) (by simp) (Below.heap_setCell w2 ⟨w.heap.size,5,none⟩ (.slice (some ⟨g2,0,none⟩) 1 c2) 0 (by have:=TG.out;show 0≠w.heap.size;omega)))
  have SZ:=hid (show (w2.setCell ⟨w.heap.size,5,none⟩ (.slice (some ⟨g2,0,none⟩) 1 c2)).heap.size=w2.heap.size from by simp)
  have HR:=hid (ND2.out.keep (w':=w2.setCell ⟨w.heap.size,5,none⟩ (.slice (some ⟨g2,0,none⟩) 1 c2)) (S':=fun g=>w1.heap.size≤g∧g<(w2.setCell ⟨w.heap.size,5,none⟩ (.slice (some ⟨g2,0,none⟩) 1 c2)).heap.size) fun g s l=>⟨⟨s,by rw [SZ.out];exact l⟩,HK.out g s⟩)
  have N0:=hid (NN0.out.keep (HK.out g2 SG.out))
  have D0:=hid (DD0.out.keep (w':=w2.setCell ⟨w.heap.size,5,none⟩ (.slice (some ⟨g2,0,none⟩) 1 c2)) (S':=fun g=>w1.heap.size≤g∧g<(w2.setCell ⟨w.heap.size,5,none⟩ (.slice (some ⟨g2,0,none⟩) 1 c2)).heap.size) fun g s l=>⟨⟨s,by rw [SZ.out];exact l⟩,HK.out g s⟩)
  have GQ:=hid SG.out
  have G2L:=hid (World.block_lt_of_cell? _ _ N0.out.e0)
  clear X1 X2 A1 T1 HD1 B2 ND2 SZ HK TG SG NN0 DD0
  generalize World.setCell w2 _ _=w3 at *
  generalize fdE x=X at *
  have LO:=hid (show ∀ g,(w1.heap.size≤g∧g<w3.heap.size)→w.heap.size≤g from fun g s=>by have:=P1L.out;omega)
  have HP:=hid (show ∀ g,(w1.heap.size≤g∧g<w3.heap.size)→g≠p2 from fun g s=>by have:=P2L.out;omega)
  have BW:=hid (Below.refl w3.heap.size w3)
  obtain ⟨c0,c1,c2',c3,c4,c5,cf⟩:=Y3.out
  cases q0:ltB X with
  | true =>
   have K0:=hid (show ∀ W,Below w3.heap.size w3 W→Calls Tryd.prog 19 #[.agg #[.string X.op,.string X.name,.int .i64 (X.kind:Nat),.int .i64 X.n,.int .i64 (X.pl:Nat),.slice a0 m0 u0]] W fun e w'=>e=.returned (.bool true)∧Below W.heap.size W w' from fun W hW=>by have h:=isLit_any X (.slice a0 m0 u0) _ W (D0.out.any hW);rw [q0] at h;exact h)
   have E:=hid (show RT=reckE (.nd op nm kd n pl [X]) X Tr.zero from E0.out.trans (stp_u1 hb12 q0))
   clear q0 E0
   obtain ⟨k0,k1,k2,k3,k4,k5⟩:=N0.out
   go_upto_region 6 with (first | (go_at_call 19;with_reducible refine Calls.mono (K0.out _ BW.out) ?_;rintro e9 wn ⟨rfl,b9⟩;have BN:=hid (nextB BW.out b9);clear BW b9;have BW:=BN;clear BN;clear c0 c1 c2' c3 c4 c5 cf;obtain ⟨c0,c1,c2',c3,c4,c5,cf⟩:=Y3.out.next BW.out;clear k0 k1 k2 k3 k4 k5;obtain ⟨k0,k1,k2,k3,k4,k5⟩:=N0.out.keep (BW.out.block g2 G2L.out)))
   clear c0 c1 c2' c3 c4 c5 cf
   clear k0 k1 k2 k3 k4 k5
   have Y4:=hid (Y3.out.next BW.out)
   have R4:=hid (R3.out.next BW.out)
   have A4:=hid (nextB A3.out BW.out)
   have J0:=hid (N0.out.keep (BW.out.block g2 G2L.out))
   have H4:=hid (HR.out.any BW.out)
   have G4:=hid (Nat.lt_of_lt_of_le G2L.out BW.out.size)
   have T4:=hid (T3.out.next BW.out)
   have L4:=hid BW.out.size
   have GP:=hid (show g2≠p2 from HP.out g2 ⟨GQ.out,G2L.out⟩)
   have KR:=hid (show ∀ W,Below wn.heap.size wn W→Calls Tryd.prog 20 #[.agg #[.string op,.string nm,.int .i64 (kd:Nat),.int .i64 n,.int .i64 (pl:Nat),.slice (some ⟨g2,0,none⟩) 1 c2],.agg #[.string X.op,.string X.name,.int .i64 (X.kind:Nat),.int .i64 X.n,.int .i64 (X.pl:Nat),.slice a0 m0 u0],.agg #[.string ⟨#[]⟩,.string ⟨#[]⟩,.int .i64 0,.int .i64 0,.int .i64 0,.slice none 0 0]] W fun e' w'=>∃ v,e'=.returned v∧Nv w' (fun g=>w1.heap.size≤g∧g<w3.heap.size) v RT∧Below W.heap.size W w' from fun W hW=>by
    rw [E.out]
    exact reckoned_any (.nd op nm kd n pl [X]) X Tr.zero (.slice (some ⟨g2,0,none⟩) 1 c2) (.slice a0 m0 u0) (.slice none 0 0) _ W (fun g s=>Nat.lt_of_lt_of_le s.2 (Nat.le_trans L4.out hW.size)) (H4.out.any hW) h14 M0.out (by unfold BdN;exact ⟨by decide,by decide⟩) (T4.out.next hW))
   clear BW Y3 N0 HR T3 G2L K0 D0 M0
   refine wp_region_held_drew (S:=fun W=>Gr wn W p2) (by kernel_rfl) (Gr.refl _ _).drew (fun hHeld=>?_)
   have BB:=hid (show Below wn.heap.size wn wn.drew from (Below.refl _ _).drew)
   generalize wn.drew=v0 at *
   refine tkq 0 (.agg #[.string op,.string nm,.int .i64 (kd:Nat),.int .i64 n,.int .i64 (pl:Nat),.slice (some ⟨g2,0,none⟩) 1 c2]) 23 rfl rfl rfl (by kernel_rfl) (fun _ _ _ h=>h) (by rfl) hHeld ?_ ?_
   ·(intro W hW;(try dsimp only at hW);obtain ⟨c0,c1,c2,c3,c4,c5,_⟩:=Y4.out.gr hW PX.out;go_simp)
   try simp only [Act.put,List.setIfInBounds_toArray,List.set_cons_zero,List.set_cons_succ]
   refine tkq 1 (.pointer (some ⟨w.heap.size,5,none⟩)) 24 rfl rfl rfl (by kernel_rfl) (fun _ _ _ h=>h) (by rfl) hHeld ?_ ?_
   ·(intro W hW;(try dsimp only at hW);go_simp)
   try simp only [Act.put,List.setIfInBounds_toArray,List.set_cons_zero,List.set_cons_succ]
   refine tkq 2 (.slice (some ⟨g2,0,none⟩) 1 c2) 25 rfl rfl rfl (by kernel_rfl) (fun _ _ _ h=>h) (by rfl) hHeld ?_ ?_
   ·(intro W hW;(try dsimp only at hW);obtain ⟨c0,c1,c2,c3,c4,c5,_⟩:=Y4.out.gr hW PX.out;go_simp)
   try simp only [Act.put,List.setIfInBounds_toArray,List.set_cons_zero,List.set_cons_succ]
   refine tkq 3 (.pointer (some ⟨g2,0,none⟩)) 26 rfl rfl rfl (by kernel_rfl) (fun _ _ _ h=>h) (by rfl) hHeld ?_ ?_
   ·(intro W hW;(try dsimp only at hW);go_simp)
   try simp only [Act.put,List.setIfInBounds_toArray,List.set_cons_zero,List.set_cons_succ]
   refine tkq 4 (.agg #[.string X.op,.string X.name,.int .i64 (X.kind:Nat),.int .i64 X.n,.int .i64 (X.pl:Nat),.slice a0 m0 u0]) 27 rfl rfl rfl (by kernel_rfl) (fun _ _ _ h=>h) (by rfl) hHeld ?_ ?_
   ·(intro W hW;(try dsimp only at hW);obtain ⟨k0,k1,k2,k3,k4,k5⟩:=J0.out.keep (hW.block g2 G4.out (fun e=>GP.out (by injection e)));go_simp)
   try simp only [Act.put,List.setIfInBounds_toArray,List.set_cons_zero,List.set_cons_succ]
   refine tkq 5 (.agg #[.string ⟨#[]⟩,.string ⟨#[]⟩,.int .i64 0,.int .i64 0,.int .i64 0,.slice none 0 0]) 28 rfl rfl rfl (by kernel_rfl) (fun _ _ _ h=>h) (by rfl) hHeld ?_ ?_
   ·(intro W hW;(try dsimp only at hW);go_simp)
   try simp only [Act.put,List.setIfInBounds_toArray,List.set_cons_zero,List.set_cons_succ]
   refine wpAnyH_ready (rs:=[6]) (by kernel_rfl) (by simp) ?_
   refine cons2 rfl rfl (fun K9 hK=>?_)
   have KV:=hid (KR.out v0 BB.out)
   go_simp
   refine Calls.mono KV.out ?_
   rintro e9 v1 ⟨v9,rfl,⟨s9,rfl,n9⟩,b7⟩
   clear KV
   obtain ⟨ta,tm,tc,rfl⟩:=n9.slice
   have N9:=hid n9
   have BN:=hid (nextB BB.out b7)
   clear b7 n9
   go_wp2_with fail
   refine hK.out _ _ ((Gr.refl wn p2).below BN.out) (fun hX=>?_)
   clear hK K9 hHeld
   have hHeld:=hX
   clear hX
   try simp only [Act.put,List.setIfInBounds_toArray,List.set_cons_zero,List.set_cons_succ]
   clear BB
   have BB:=BN
   clear BN
   have S:=hid ((R4.out.next BB.out).sets (.string RT.op) (.string RT.name) (.int .i64 (RT.kind:Nat)) (.int .i64 RT.n) (.int .i64 (RT.pl:Nat)) (.slice ta tm tc))
   have BF:=hid (Below.put6X (nextB A4.out BB.out) (q:=p2) P3.out (.string RT.op) (.string RT.name) (.int .i64 (RT.kind:Nat)) (.int .i64 RT.n) (.int .i64 (RT.pl:Nat)) (.slice ta tm tc))
   have NF:=hid (N9.out.keep (S':=fun g=>w.heap.size≤g) fun g s l=>⟨LO.out g s,heap6 _ p2 (.string RT.op) (.string RT.name) (.int .i64 (RT.kind:Nat)) (.int .i64 RT.n) (.int .i64 (RT.pl:Nat)) (.slice ta tm tc) g (HP.out g s)⟩)
   obtain ⟨z0,z1,z2,z3,z4,z5,zf⟩:=R4.out.next BB.out
   have SG9:=hid (show Gr wn _ p2 from ((((((((Gr.refl wn p2).below BB.out).set (i:=0) (.string RT.op)).set (i:=1) (.string RT.name)).set (i:=2) (.int .i64 (RT.kind:Nat))).set (i:=3) (.int .i64 RT.n)).set (i:=4) (.int .i64 (RT.pl:Nat))).set (i:=5) (.slice ta tm tc)))
   refine wpAnyH_ready (rs:=[7]) (by kernel_rfl) (by simp) ?_
   refine cons2 rfl rfl (fun K9 hK=>?_)
   go_simp
   clear z0 z1 z2 z3 z4 z5 zf
   generalize World.setCell _ ⟨p2,5,none⟩ _=wf at *
   refine hK.out _ _ (SG9.out) (fun hX=>?_)
   clear hK K9 hHeld
   have hHeld:=hX
   clear hX
   try simp only [Act.put,List.setIfInBounds_toArray,List.set_cons_zero,List.set_cons_succ]
   refine wpAnyH_done (by kernel_rfl) ?_ _
   go_wp2_with fail
   obtain ⟨f0,f1,f2,f3,f4,f5,_⟩:=S.out
   try simp only [Exit.inBlock,Exit.then]
   refine bodyPost_ret (v:=.agg #[.string RT.op,.string RT.name,.int .i64 (RT.kind:Nat),.int .i64 RT.n,.int .i64 (RT.pl:Nat),.slice ta tm tc]) (by simp [results,Tryd.results10,go_sem,f0,f1,f2,f3,f4,f5]) rfl ?_
   exact ⟨_,rfl,⟨_,rfl,NF.out⟩,BF.out⟩
  | false =>
   have K0:=hid (show ∀ W,Below w3.heap.size w3 W→Calls Tryd.prog 19 #[.agg #[.string X.op,.string X.name,.int .i64 (X.kind:Nat),.int .i64 X.n,.int .i64 (X.pl:Nat),.slice a0 m0 u0]] W fun e w'=>e=.returned (.bool false)∧Below W.heap.size W w' from fun W hW=>by have h:=isLit_any X (.slice a0 m0 u0) _ W (D0.out.any hW);rw [q0] at h;exact h)
   have E:=hid (show RT=(.nd op nm kd n pl [X]) from E0.out.trans (stp_u2 hb12 q0))
   clear q0 E0
   obtain ⟨k0,k1,k2,k3,k4,k5⟩:=N0.out
   go_upto_region 28 with (first | (go_at_call 19;with_reducible refine Calls.mono (K0.out _ BW.out) ?_;rintro e9 wn ⟨rfl,b9⟩;have BN:=hid (nextB BW.out b9);clear BW b9;have BW:=BN;clear BN;clear c0 c1 c2' c3 c4 c5 cf;obtain ⟨c0,c1,c2',c3,c4,c5,cf⟩:=Y3.out.next BW.out;clear k0 k1 k2 k3 k4 k5;obtain ⟨k0,k1,k2,k3,k4,k5⟩:=N0.out.keep (BW.out.block g2 G2L.out)))
   clear k0 k1 k2 k3 k4 k5
   have S:=hid ((R3.out.next BW.out).sets (.string op) (.string nm) (.int .i64 (kd:Nat)) (.int .i64 n) (.int .i64 (pl:Nat)) (.slice (some ⟨g2,0,none⟩) 1 c2))
   have BF:=hid (Below.put6X (nextB A3.out BW.out) (q:=p2) P3.out (.string op) (.string nm) (.int .i64 (kd:Nat)) (.int .i64 n) (.int .i64 (pl:Nat)) (.slice (some ⟨g2,0,none⟩) 1 c2))
   have NF:=hid ((HR.out.any BW.out).keep (S':=fun g=>w.heap.size≤g) fun g s l=>⟨LO.out g s,heap6 _ p2 (.string op) (.string nm) (.int .i64 (kd:Nat)) (.int .i64 n) (.int .i64 (pl:Nat)) (.slice (some ⟨g2,0,none⟩) 1 c2) g (HP.out g s)⟩)
   obtain ⟨z0,z1,z2,z3,z4,z5,zf⟩:=R3.out.next BW.out
   go_wp2_with fail
   clear c0 c1 c2' c3 c4 c5 cf
   clear z0 z1 z2 z3 z4 z5 zf
   generalize World.setCell _ ⟨p2,5,none⟩ _=wf at *
   obtain ⟨f0,f1,f2,f3,f4,f5,_⟩:=S.out
   try simp only [Exit.inBlock,Exit.then]
   refine bodyPost_ret (v:=.agg #[.string op,.string nm,.int .i64 (kd:Nat),.int .i64 n,.int .i64 (pl:Nat),.slice (some ⟨g2,0,none⟩) 1 c2]) (by simp [results,Tryd.results10,go_sem,f0,f1,f2,f3,f4,f5]) rfl ?_
   rw [E.out]
   exact ⟨_,rfl,⟨_,rfl,NF.out⟩,BF.out⟩
set_option maxRecDepth 100000 in
set_option maxHeartbeats 8000000 in
theorem ex_bin (op:ByteArray) (ho:op ∈ ops12b) (nm:ByteArray) (kd:Nat) (n:Int) (pl:Nat) (x y:Tr) (hb:∀ k,k ∈ ([x,y]:List Tr)→BdN (fdE k).n) (ih:∀ k,k ∈ ([x,y]:List Tr)→ExC k):ExC (.nd op nm kd n pl [x,y]):=by
 have TT:bin12 op=true∧op ∈ ops14∧(op.toList==[110,101,103])=false∧(op.toList==[110,111,116])=false∧(((op.toList==[43])=true)∨((op.toList==[43])=false∧(op.toList==[45])=true)∨((op.toList==[43])=false∧(op.toList==[45])=false∧(op.toList==[42])=true)∨((op.toList==[43])=false∧(op.toList==[45])=false∧(op.toList==[42])=false∧(op.toList==[47])=true)∨((op.toList==[43])=false∧(op.toList==[45])=false∧(op.toList==[42])=false∧(op.toList==[47])=false∧(op.toList==[60])=true)∨((op.toList==[43])=false∧(op.toList==[45])=false∧(op.toList==[42])=false∧(op.toList==[47])=false∧(op.toList==[60])=false∧(op.toList==[60,61])=true)∨((op.toList==[43])=false∧(op.toList==[45])=false∧(op.toList==[42])=false∧(op.toList==[47])=false∧(op.toList==[60])=false∧(op.toList==[60,61])=false∧(op.toList==[62])=true)∨((op.toList==[43])=false∧(op.toList==[45])=false∧(op.toList==[42])=false∧(op.toList==[47])=false∧(op.toList==[60])=false∧(op.toList==[60,61])=false∧(op.toList==[62])=false∧(op.toList==[62,61])=true)∨((op.toList==[43])=false∧(op.toList==[45])=false∧(op.toList==[42])=false∧(op.toList==[47])=false∧(op.toList==[60])=false∧(op.toList==[60,61])=false∧(op.toList==[62])=false∧(op.toList==[62,61])=false∧(op.toList==[61,61])=true)∨((op.toList==[43])=false∧(op.toList==[45])=false∧(op.toList==[42])=false∧(op.toList==[47])=false∧(op.toList==[60])=false∧(op.toList==[60,61])=false∧(op.toList==[62])=false∧(op.toList==[62,61])=false∧(op.toList==[61,61])=false∧(op.toList==[33,61])=true)∨((op.toList==[43])=false∧(op.toList==[45])=false∧(op.toList==[42])=false∧(op.toList==[47])=false∧(op.toList==[60])=false∧(op.toList==[60,61])=false∧(op.toList==[62])=false∧(op.toList==[62,61])=false∧(op.toList==[61,61])=false∧(op.toList==[33,61])=false∧(op.toList==[109,105,110])=true)∨((op.toList==[43])=false∧(op.toList==[45])=false∧(op.toList==[42])=false∧(op.toList==[47])=false∧(op.toList==[60])=false∧(op.toList==[60,61])=false∧(op.toList==[62])=false∧(op.toList==[62,61])=false∧(op.toList==[61,61])=false∧(op.toList==[33,61])=false∧(op.toList==[109,105,110])=false∧(op.toList==[109,97,120])=true)):=by
  simp only [ops12b,List.mem_cons,List.not_mem_nil,or_false] at ho
  rcases ho with rfl | rfl | rfl | rfl | rfl | rfl | rfl | rfl | rfl | rfl | rfl | rfl <;> exact ⟨rfl,by simp [ops14],(eqL _ _).trans rfl,(eqL _ _).trans rfl,by simp [eqL,eqB]⟩
 obtain ⟨hb12,h14,zn,zo,TT⟩:=TT
 clear ho
 rcases TT with z0 | ⟨z0,z1⟩ | ⟨z0,z1,z2⟩ | ⟨z0,z1,z2,z3⟩ | ⟨z0,z1,z2,z3,z4⟩ | ⟨z0,z1,z2,z3,z4,z5⟩ | ⟨z0,z1,z2,z3,z4,z5,z6⟩ | ⟨z0,z1,z2,z3,z4,z5,z6,z7⟩ | ⟨z0,z1,z2,z3,z4,z5,z6,z7,z8⟩ | ⟨z0,z1,z2,z3,z4,z5,z6,z7,z8,z9⟩ | ⟨z0,z1,z2,z3,z4,z5,z6,z7,z8,z9,z10⟩ | ⟨z0,z1,z2,z3,z4,z5,z6,z7,z8,z9,z10,z11⟩
 all_goals
  intro S w v hT hv
  obtain ⟨se,rfl,hd⟩:=hv
  obtain ⟨sa,sc,rfl⟩:=hd.len2
  replace hd:Nd w S (.slice sa 2 sc) [x,y]:=hd
  show Calls _ _ #[.agg #[.string op,.string nm,.int .i64 (kd:Nat),.int .i64 n,.int .i64 (pl:Nat),.slice sa 2 sc]] _ _
  have sz1:(w.alloc (.cells #[.string op,.string nm,.int .i64 (kd:Nat),.int .i64 n,.int .i64 (pl:Nat),.slice sa 2 sc] 28)).heap.size=w.heap.size+1:=by simp
  have A1:=hid (show Below w.heap.size w ((w.alloc (.cells #[.string op,.string nm,.int .i64 (kd:Nat),.int .i64 n,.int .i64 (pl:Nat),.slice sa 2 sc] 28)).alloc (.cells #[.string ⟨#[]⟩,.string ⟨#[]⟩,.int .i64 0,.int .i64 0,.int .i64 0,.slice none 0 0] 28)) from ((Below.refl _ _).alloc (Nat.le_refl _) _).alloc (by simp) _)
  have X1:=hid (show B6 ((w.alloc (.cells #[.string op,.string nm,.int .i64 (kd:Nat),.int .i64 n,.int .i64 (pl:Nat),.slice sa 2 sc] 28)).alloc (.cells #[.string ⟨#[]⟩,.string ⟨#[]⟩,.int .i64 0,.int .i64 0,.int .i64 0,.slice none 0 0] 28)) w.heap.size (.string op) (.string nm) (.int .i64 (kd:Nat)) (.int .i64 n) (.int .i64 (pl:Nat)) (.slice sa 2 sc) from by
   have h:=(B6.new w 28 (.string op) (.string nm) (.int .i64 (kd:Nat)) (.int .i64 n) (.int .i64 (pl:Nat)) (.slice sa 2 sc)).next ((Below.refl _ _).alloc (Nat.le_refl _) (.cells #[.string ⟨#[]⟩,.string ⟨#[]⟩,.int .i64 0,.int .i64 0,.int .i64 0,.slice none 0 0] 28))
   exact h)
  have X2:=hid (show B6 ((w.alloc (.cells #[.string op,.string nm,.int .i64 (kd:Nat),.int .i64 n,.int .i64 (pl:Nat),.slice sa 2 sc] 28)).alloc (.cells #[.string ⟨#[]⟩,.string ⟨#[]⟩,.int .i64 0,.int .i64 0,.int .i64 0,.slice none 0 0] 28)) (w.heap.size+1) (.string ⟨#[]⟩) (.string ⟨#[]⟩) (.int .i64 0) (.int .i64 0) (.int .i64 0) (.slice none 0 0) from by
   have h:=B6.new (w.alloc (.cells #[.string op,.string nm,.int .i64 (kd:Nat),.int .i64 n,.int .i64 (pl:Nat),.slice sa 2 sc] 28)) 28 (.string ⟨#[]⟩) (.string ⟨#[]⟩) (.int .i64 0) (.int .i64 0) (.int .i64 0) (.slice none 0 0)
   rw [sz1] at h
   exact h)
  clear sz1
  have HD1:=hid (hd.any A1.out)
  have T1:=hid (hT.next A1.out)
  have KE:=hid (show ∀ W,TabU W→Nd W S (.slice sa 2 sc) [x,y]→Calls Tryd.prog 16 #[.slice sa 2 sc,.func (.func 10) #[] #[]] W fun e w'=>∃ v',e=.returned v'∧Nd w' (fun g=>W.heap.size≤g) v' [fdE x,fdE y]∧Below W.heap.size W w' from fun W hT hW=>each_fold_Expr fdE [x,y] S W (.slice sa 2 sc) hW (by simp) hT (fun k hk w1 v1 hT1 hv1=>ih k hk S w1 v1 hT1 hv1))
  have M0:=hid (hb x (by simp))
  have M1:=hid (hb y (by simp))
  have E0:=hid (show fdE (.nd op nm kd n pl [x,y])=stpE (.nd op nm kd n pl [fdE x,fdE y]) from by rw [fdE];rw [fdL,fdL,fdL])
  generalize fdE (.nd op nm kd n pl [x,y])=RT at *
  have TG:=hid (show 0<w.heap.size from hT.1)
  clear hd hT hb ih
  go_enter Tryd.func10,Tryd.ntmps10
  go_upto_region 1 with fail
  generalize World.alloc (World.alloc w _) _=w1 at *
  have P3:=hid (show w.heap.size≤w.heap.size+1 by omega)
  have PX:=hid (show w.heap.size≠w.heap.size+1 by omega)
  have P2L:=hid X2.out.lt
  have P1L:=hid X1.out.lt
  generalize w.heap.size+1=p2 at *
  obtain ⟨c0,c1,c2',c3,c4,c5,cf⟩:=X1.out
  go_upto_region 2 with (go_at_call 16;with_reducible refine Calls.mono (KE.out _ T1.out HD1.out) ?_;rintro e9 w2 ⟨v2,rfl,nq,b2⟩;have B2:=hid b2;have ND2:=hid nq;obtain ⟨g2,c2,a0,m0,u0,a1,m1,u1,rfl,sg,n0,n1,d0,d1⟩:=Nd.k2 nq;have SG:=hid sg;have NN0:=hid n0;have DD0:=hid d0;clear n0 d0;have NN1:=hid n1;have DD1:=hid d1;clear n1 d1;clear sg;clear nq b2 c0 c1 c2' c3 c4 c5 cf;obtain ⟨c0,c1,c2',c3,c4,c5,cf⟩:=X1.out.next B2.out)
  clear c0 c1 c2' c3 c4 c5 cf KE
  have HK:=hid (show ∀ g,w1.heap.size≤g→(w2.setCell ⟨w.heap.size,5,none⟩ (.slice (some ⟨g2,0,none⟩) 2 c2)).heap[g]?=w2.heap[g]? from fun g hg=>Below.heap_setCell w2 ⟨w.heap.size,5,none⟩ (.slice (some ⟨g2,0,none⟩) 2 c2) g (by have:=P1L.out;show g≠w.heap.size;omega))
  have Y3:=hid ((X1.out.next B2.out).set5 (.slice (some ⟨g2,0,none⟩) 2 c2))
  have R3:=hid ((X2.out.next B2.out).put (q:=w.heap.size) (i:=5) (by have:=PX.out;omega) (.slice (some ⟨g2,0,none⟩) 2 c2))
  have A3:=hid ((nextB A1.out B2.out).setCell (p:=⟨w.heap.size,5,none⟩) (Nat.le_refl _) (.slice (some ⟨g2,0,none⟩) 2 c2))
  have T3:=hid ((T1.out.next B2.out).keep (w':=w2.setCell ⟨w.heap.size,5,none⟩ (.slice (some ⟨g2,0,none⟩) 2 c2)) (by simp) (Below.heap_setCell w2 ⟨w.heap.size,5,none⟩ (.slice (some ⟨g2,0,none⟩) 2 c2) 0 (by have:=TG.out;show 0≠w.heap.size;omega)))
  have SZ:=hid (show (w2.setCell ⟨w.heap.size,5,none⟩ (.slice (some ⟨g2,0,none⟩) 2 c2)).heap.size=w2.heap.size from by simp)
  have HR:=hid (ND2.out.keep (w':=w2.setCell ⟨w.heap.size,5,none⟩ (.slice (some ⟨g2,0,none⟩) 2 c2)) (S':=fun g=>w1.heap.size≤g∧g<(w2.setCell ⟨w.heap.size,5,none⟩ (.slice (some ⟨g2,0,none⟩) 2 c2)).heap.size) fun g s l=>⟨⟨s,by rw [SZ.out];exact l⟩,HK.out g s⟩)
  have N0:=hid (NN0.out.keep (HK.out g2 SG.out))
  have D0:=hid (DD0.out.keep (w':=w2.setCell ⟨w.heap.size,5,none⟩ (.slice (some ⟨g2,0,none⟩) 2 c2)) (S':=fun g=>w1.heap.size≤g∧g<(w2.setCell ⟨w.heap.size,5,none⟩ (.slice (some ⟨g2,0,none⟩) 2 c2)).heap.size) fun g s l=>⟨⟨s,by rw [SZ.out];exact l⟩,HK.out g s⟩)
  have N1:=hid (NN1.out.keep (HK.out g2 SG.out))
  have D1:=hid (DD1.out.keep (w':=w2.setCell ⟨w.heap.size,5,none⟩ (.slice (some ⟨g2,0,none⟩) 2 c2)) (S':=fun g=>w1.heap.size≤g∧g<(w2.setCell ⟨w.heap.size,5,none⟩ (.slice (some ⟨g2,0,none⟩) 2 c2)).heap.size) fun g s l=>⟨⟨s,by rw [SZ.out];exact l⟩,HK.out g s⟩)
  have GQ:=hid SG.out
  have G2L:=hid (World.block_lt_of_cell? _ _ N0.out.e0)
  clear X1 X2 A1 T1 HD1 B2 ND2 SZ HK TG SG NN0 DD0 NN1 DD1
  generalize World.setCell w2 _ _=w3 at *
  generalize fdE x=X at *
  generalize fdE y=Y at *
  have LO:=hid (show ∀ g,(w1.heap.size≤g∧g<w3.heap.size)→w.heap.size≤g from fun g s=>by have:=P1L.out;omega)
  have HP:=hid (show ∀ g,(w1.heap.size≤g∧g<w3.heap.size)→g≠p2 from fun g s=>by have:=P2L.out;omega)
  have BW:=hid (Below.refl w3.heap.size w3)
  obtain ⟨c0,c1,c2',c3,c4,c5,cf⟩:=Y3.out
  cases q0:ltB X with
  | true =>
   cases q1:ltB Y with
   | true =>
    have K0:=hid (show ∀ W,Below w3.heap.size w3 W→Calls Tryd.prog 19 #[.agg #[.string X.op,.string X.name,.int .i64 (X.kind:Nat),.int .i64 X.n,.int .i64 (X.pl:Nat),.slice a0 m0 u0]] W fun e w'=>e=.returned (.bool true)∧Below W.heap.size W w' from fun W hW=>by have h:=isLit_any X (.slice a0 m0 u0) _ W (D0.out.any hW);rw [q0] at h;exact h)
    have K1:=hid (show ∀ W,Below w3.heap.size w3 W→Calls Tryd.prog 19 #[.agg #[.string Y.op,.string Y.name,.int .i64 (Y.kind:Nat),.int .i64 Y.n,.int .i64 (Y.pl:Nat),.slice a1 m1 u1]] W fun e w'=>e=.returned (.bool true)∧Below W.heap.size W w' from fun W hW=>by have h:=isLit_any Y (.slice a1 m1 u1) _ W (D1.out.any hW);rw [q1] at h;exact h)
    have E:=hid (show RT=reckE (.nd op nm kd n pl [X,Y]) X Y from E0.out.trans (stp_b1 hb12 q0 q1))
    clear q0 q1 E0
    obtain ⟨k0,k1,k2,k3,k4,k5⟩:=N0.out
    go_upto_region 20 with (first | (go_at_call 19;with_reducible refine Calls.mono (K0.out _ BW.out) ?_;rintro e9 wn ⟨rfl,b9⟩;have BN:=hid (nextB BW.out b9);clear BW b9;have BW:=BN;clear BN;clear c0 c1 c2' c3 c4 c5 cf;obtain ⟨c0,c1,c2',c3,c4,c5,cf⟩:=Y3.out.next BW.out;clear k0 k1 k2 k3 k4 k5;obtain ⟨k0,k1,k2,k3,k4,k5⟩:=N1.out.keep (BW.out.block g2 G2L.out)) | (go_at_call 19;with_reducible refine Calls.mono (K1.out _ BW.out) ?_;rintro e9 wn ⟨rfl,b9⟩;have BN:=hid (nextB BW.out b9);clear BW b9;have BW:=BN;clear BN;clear c0 c1 c2' c3 c4 c5 cf;obtain ⟨c0,c1,c2',c3,c4,c5,cf⟩:=Y3.out.next BW.out;clear k0 k1 k2 k3 k4 k5;obtain ⟨k0,k1,k2,k3,k4,k5⟩:=N0.out.keep (BW.out.block g2 G2L.out)))
    clear c0 c1 c2' c3 c4 c5 cf
    clear k0 k1 k2 k3 k4 k5
    have Y4:=hid (Y3.out.next BW.out)
    have R4:=hid (R3.out.next BW.out)
    have A4:=hid (nextB A3.out BW.out)
    have J0:=hid (N0.out.keep (BW.out.block g2 G2L.out))
    have J1:=hid (N1.out.keep (BW.out.block g2 G2L.out))
    have H4:=hid (HR.out.any BW.out)
    have G4:=hid (Nat.lt_of_lt_of_le G2L.out BW.out.size)
    have T4:=hid (T3.out.next BW.out)
    have L4:=hid BW.out.size
    have GP:=hid (show g2≠p2 from HP.out g2 ⟨GQ.out,G2L.out⟩)
    have KR:=hid (show ∀ W,Below wn.heap.size wn W→Calls Tryd.prog 20 #[.agg #[.string op,.string nm,.int .i64 (kd:Nat),.int .i64 n,.int .i64 (pl:Nat),.slice (some ⟨g2,0,none⟩) 2 c2],.agg #[.string X.op,.string X.name,.int .i64 (X.kind:Nat),.int .i64 X.n,.int .i64 (X.pl:Nat),.slice a0 m0 u0],.agg #[.string Y.op,.string Y.name,.int .i64 (Y.kind:Nat),.int .i64 Y.n,.int .i64 (Y.pl:Nat),.slice a1 m1 u1]] W fun e' w'=>∃ v,e'=.returned v∧Nv w' (fun g=>w1.heap.size≤g∧g<w3.heap.size) v RT∧Below W.heap.size W w' from fun W hW=>by
     rw [E.out]
     exact reckoned_any (.nd op nm kd n pl [X,Y]) X Y (.slice (some ⟨g2,0,none⟩) 2 c2) (.slice a0 m0 u0) (.slice a1 m1 u1) _ W (fun g s=>Nat.lt_of_lt_of_le s.2 (Nat.le_trans L4.out hW.size)) (H4.out.any hW) h14 M0.out M1.out (T4.out.next hW))
    clear BW Y3 N0 N1 HR T3 G2L K0 D0 M0 K1 D1 M1
    refine wp_region_held_drew (S:=fun W=>Gr wn W p2) (by kernel_rfl) (Gr.refl _ _).drew (fun hHeld=>?_)
    have BB:=hid (show Below wn.heap.size wn wn.drew from (Below.refl _ _).drew)
    generalize wn.drew=v0 at *
    refine tkq 0 (.agg #[.string op,.string nm,.int .i64 (kd:Nat),.int .i64 n,.int .i64 (pl:Nat),.slice (some ⟨g2,0,none⟩) 2 c2]) 61 rfl rfl rfl (by kernel_rfl) (fun _ _ _ h=>h) (by rfl) hHeld ?_ ?_
    ·(intro W hW;(try dsimp only at hW);obtain ⟨c0,c1,c2,c3,c4,c5,_⟩:=Y4.out.gr hW PX.out;go_simp)
    try simp only [Act.put,List.setIfInBounds_toArray,List.set_cons_zero,List.set_cons_succ]
    refine tkq 1 (.pointer (some ⟨w.heap.size,5,none⟩)) 62 rfl rfl rfl (by kernel_rfl) (fun _ _ _ h=>h) (by rfl) hHeld ?_ ?_
    ·(intro W hW;(try dsimp only at hW);go_simp)
    try simp only [Act.put,List.setIfInBounds_toArray,List.set_cons_zero,List.set_cons_succ]
    refine tkq 2 (.slice (some ⟨g2,0,none⟩) 2 c2) 63 rfl rfl rfl (by kernel_rfl) (fun _ _ _ h=>h) (by rfl) hHeld ?_ ?_
    ·(intro W hW;(try dsimp only at hW);obtain ⟨c0,c1,c2,c3,c4,c5,_⟩:=Y4.out.gr hW PX.out;go_simp)
    try simp only [Act.put,List.setIfInBounds_toArray,List.set_cons_zero,List.set_cons_succ]
    refine tkq 3 (.pointer (some ⟨g2,0,none⟩)) 64 rfl rfl rfl (by kernel_rfl) (fun _ _ _ h=>h) (by rfl) hHeld ?_ ?_
    ·(intro W hW;(try dsimp only at hW);go_simp)
    try simp only [Act.put,List.setIfInBounds_toArray,List.set_cons_zero,List.set_cons_succ]
    refine tkq 4 (.agg #[.string X.op,.string X.name,.int .i64 (X.kind:Nat),.int .i64 X.n,.int .i64 (X.pl:Nat),.slice a0 m0 u0]) 65 rfl rfl rfl (by kernel_rfl) (fun _ _ _ h=>h) (by rfl) hHeld ?_ ?_
    ·(intro W hW;(try dsimp only at hW);obtain ⟨k0,k1,k2,k3,k4,k5⟩:=J0.out.keep (hW.block g2 G4.out (fun e=>GP.out (by injection e)));go_simp)
    try simp only [Act.put,List.setIfInBounds_toArray,List.set_cons_zero,List.set_cons_succ]
    refine tkq 5 (.pointer (some ⟨w.heap.size,5,none⟩)) 66 rfl rfl rfl (by kernel_rfl) (fun _ _ _ h=>h) (by rfl) hHeld ?_ ?_
    ·(intro W hW;(try dsimp only at hW);go_simp)
    try simp only [Act.put,List.setIfInBounds_toArray,List.set_cons_zero,List.set_cons_succ]
    refine tkq 6 (.slice (some ⟨g2,0,none⟩) 2 c2) 67 rfl rfl rfl (by kernel_rfl) (fun _ _ _ h=>h) (by rfl) hHeld ?_ ?_
    ·(intro W hW;(try dsimp only at hW);obtain ⟨c0,c1,c2,c3,c4,c5,_⟩:=Y4.out.gr hW PX.out;go_simp)
    try simp only [Act.put,List.setIfInBounds_toArray,List.set_cons_zero,List.set_cons_succ]
    refine tkq 7 (.pointer (some ⟨g2,6,none⟩)) 68 rfl rfl rfl (by kernel_rfl) (fun _ _ _ h=>h) (by rfl) hHeld ?_ ?_
    ·(intro W hW;(try dsimp only at hW);go_simp)
    try simp only [Act.put,List.setIfInBounds_toArray,List.set_cons_zero,List.set_cons_succ]
    refine tkq 8 (.agg #[.string Y.op,.string Y.name,.int .i64 (Y.kind:Nat),.int .i64 Y.n,.int .i64 (Y.pl:Nat),.slice a1 m1 u1]) 69 rfl rfl rfl (by kernel_rfl) (fun _ _ _ h=>h) (by rfl) hHeld ?_ ?_
    ·(intro W hW;(try dsimp only at hW);obtain ⟨k0,k1,k2,k3,k4,k5⟩:=J1.out.keep (hW.block g2 G4.out (fun e=>GP.out (by injection e)));go_simp)
    try simp only [Act.put,List.setIfInBounds_toArray,List.set_cons_zero,List.set_cons_succ]
    refine wpAnyH_ready (rs:=[9]) (by kernel_rfl) (by simp) ?_
    refine cons2 rfl rfl (fun K9 hK=>?_)
    have KV:=hid (KR.out v0 BB.out)
    go_simp
    refine Calls.mono KV.out ?_
    rintro e9 v1 ⟨v9,rfl,⟨s9,rfl,n9⟩,b7⟩
    clear KV
    obtain ⟨ta,tm,tc,rfl⟩:=n9.slice
    have N9:=hid n9
    have BN:=hid (nextB BB.out b7)
    clear b7 n9
    go_wp2_with fail
    refine hK.out _ _ ((Gr.refl wn p2).below BN.out) (fun hX=>?_)
    clear hK K9 hHeld
    have hHeld:=hX
    clear hX
    try simp only [Act.put,List.setIfInBounds_toArray,List.set_cons_zero,List.set_cons_succ]
    clear BB
    have BB:=BN
    clear BN
    have S:=hid ((R4.out.next BB.out).sets (.string RT.op) (.string RT.name) (.int .i64 (RT.kind:Nat)) (.int .i64 RT.n) (.int .i64 (RT.pl:Nat)) (.slice ta tm tc))
    have BF:=hid (Below.put6X (nextB A4.out BB.out) (q:=p2) P3.out (.string RT.op) (.string RT.name) (.int .i64 (RT.kind:Nat)) (.int .i64 RT.n) (.int .i64 (RT.pl:Nat)) (.slice ta tm tc))
    have NF:=hid (N9.out.keep (S':=fun g=>w.heap.size≤g) fun g s l=>⟨LO.out g s,heap6 _ p2 (.string RT.op) (.string RT.name) (.int .i64 (RT.kind:Nat)) (.int .i64 RT.n) (.int .i64 (RT.pl:Nat)) (.slice ta tm tc) g (HP.out g s)⟩)
    obtain ⟨z0,z1,z2,z3,z4,z5,zf⟩:=R4.out.next BB.out
    have SG9:=hid (show Gr wn _ p2 from ((((((((Gr.refl wn p2).below BB.out).set (i:=0) (.string RT.op)).set (i:=1) (.string RT.name)).set (i:=2) (.int .i64 (RT.kind:Nat))).set (i:=3) (.int .i64 RT.n)).set (i:=4) (.int .i64 (RT.pl:Nat))).set (i:=5) (.slice ta tm tc)))
    refine wpAnyH_ready (rs:=[10]) (by kernel_rfl) (by simp) ?_
    refine cons2 rfl rfl (fun K9 hK=>?_)
    go_simp
    clear z0 z1 z2 z3 z4 z5 zf
    generalize World.setCell _ ⟨p2,5,none⟩ _=wf at *
    refine hK.out _ _ (SG9.out) (fun hX=>?_)
    clear hK K9 hHeld
    have hHeld:=hX
    clear hX
    try simp only [Act.put,List.setIfInBounds_toArray,List.set_cons_zero,List.set_cons_succ]
    refine wpAnyH_done (by kernel_rfl) ?_ _
    go_wp2_with fail
    obtain ⟨f0,f1,f2,f3,f4,f5,_⟩:=S.out
    try simp only [Exit.inBlock,Exit.then]
    refine bodyPost_ret (v:=.agg #[.string RT.op,.string RT.name,.int .i64 (RT.kind:Nat),.int .i64 RT.n,.int .i64 (RT.pl:Nat),.slice ta tm tc]) (by simp [results,Tryd.results10,go_sem,f0,f1,f2,f3,f4,f5]) rfl ?_
    exact ⟨_,rfl,⟨_,rfl,NF.out⟩,BF.out⟩
   | false =>
    have K0:=hid (show ∀ W,Below w3.heap.size w3 W→Calls Tryd.prog 19 #[.agg #[.string X.op,.string X.name,.int .i64 (X.kind:Nat),.int .i64 X.n,.int .i64 (X.pl:Nat),.slice a0 m0 u0]] W fun e w'=>e=.returned (.bool true)∧Below W.heap.size W w' from fun W hW=>by have h:=isLit_any X (.slice a0 m0 u0) _ W (D0.out.any hW);rw [q0] at h;exact h)
    have K1:=hid (show ∀ W,Below w3.heap.size w3 W→Calls Tryd.prog 19 #[.agg #[.string Y.op,.string Y.name,.int .i64 (Y.kind:Nat),.int .i64 Y.n,.int .i64 (Y.pl:Nat),.slice a1 m1 u1]] W fun e w'=>e=.returned (.bool false)∧Below W.heap.size W w' from fun W hW=>by have h:=isLit_any Y (.slice a1 m1 u1) _ W (D1.out.any hW);rw [q1] at h;exact h)
    have E:=hid (show RT=(.nd op nm kd n pl [X,Y]) from E0.out.trans (stp_b2 hb12 q0 q1))
    clear q0 q1 E0
    obtain ⟨k0,k1,k2,k3,k4,k5⟩:=N0.out
    go_upto_region 28 with (first | (go_at_call 19;with_reducible refine Calls.mono (K0.out _ BW.out) ?_;rintro e9 wn ⟨rfl,b9⟩;have BN:=hid (nextB BW.out b9);clear BW b9;have BW:=BN;clear BN;clear c0 c1 c2' c3 c4 c5 cf;obtain ⟨c0,c1,c2',c3,c4,c5,cf⟩:=Y3.out.next BW.out;clear k0 k1 k2 k3 k4 k5;obtain ⟨k0,k1,k2,k3,k4,k5⟩:=N1.out.keep (BW.out.block g2 G2L.out)) | (go_at_call 19;with_reducible refine Calls.mono (K1.out _ BW.out) ?_;rintro e9 wn ⟨rfl,b9⟩;have BN:=hid (nextB BW.out b9);clear BW b9;have BW:=BN;clear BN;clear c0 c1 c2' c3 c4 c5 cf;obtain ⟨c0,c1,c2',c3,c4,c5,cf⟩:=Y3.out.next BW.out;clear k0 k1 k2 k3 k4 k5;obtain ⟨k0,k1,k2,k3,k4,k5⟩:=N0.out.keep (BW.out.block g2 G2L.out)))
    clear k0 k1 k2 k3 k4 k5
    have S:=hid ((R3.out.next BW.out).sets (.string op) (.string nm) (.int .i64 (kd:Nat)) (.int .i64 n) (.int .i64 (pl:Nat)) (.slice (some ⟨g2,0,none⟩) 2 c2))
    have BF:=hid (Below.put6X (nextB A3.out BW.out) (q:=p2) P3.out (.string op) (.string nm) (.int .i64 (kd:Nat)) (.int .i64 n) (.int .i64 (pl:Nat)) (.slice (some ⟨g2,0,none⟩) 2 c2))
    have NF:=hid ((HR.out.any BW.out).keep (S':=fun g=>w.heap.size≤g) fun g s l=>⟨LO.out g s,heap6 _ p2 (.string op) (.string nm) (.int .i64 (kd:Nat)) (.int .i64 n) (.int .i64 (pl:Nat)) (.slice (some ⟨g2,0,none⟩) 2 c2) g (HP.out g s)⟩)
    obtain ⟨z0,z1,z2,z3,z4,z5,zf⟩:=R3.out.next BW.out
    go_wp2_with fail
    clear c0 c1 c2' c3 c4 c5 cf
    clear z0 z1 z2 z3 z4 z5 zf
    generalize World.setCell _ ⟨p2,5,none⟩ _=wf at *
    obtain ⟨f0,f1,f2,f3,f4,f5,_⟩:=S.out
    try simp only [Exit.inBlock,Exit.then]
    refine bodyPost_ret (v:=.agg #[.string op,.string nm,.int .i64 (kd:Nat),.int .i64 n,.int .i64 (pl:Nat),.slice (some ⟨g2,0,none⟩) 2 c2]) (by simp [results,Tryd.results10,go_sem,f0,f1,f2,f3,f4,f5]) rfl ?_
    rw [E.out]
    exact ⟨_,rfl,⟨_,rfl,NF.out⟩,BF.out⟩
  | false =>
   have K0:=hid (show ∀ W,Below w3.heap.size w3 W→Calls Tryd.prog 19 #[.agg #[.string X.op,.string X.name,.int .i64 (X.kind:Nat),.int .i64 X.n,.int .i64 (X.pl:Nat),.slice a0 m0 u0]] W fun e w'=>e=.returned (.bool false)∧Below W.heap.size W w' from fun W hW=>by have h:=isLit_any X (.slice a0 m0 u0) _ W (D0.out.any hW);rw [q0] at h;exact h)
   have E:=hid (show RT=(.nd op nm kd n pl [X,Y]) from E0.out.trans (stp_b3 hb12 q0))
   clear q0 E0
   obtain ⟨k0,k1,k2,k3,k4,k5⟩:=N0.out
   go_upto_region 28 with (first | (go_at_call 19;with_reducible refine Calls.mono (K0.out _ BW.out) ?_;rintro e9 wn ⟨rfl,b9⟩;have BN:=hid (nextB BW.out b9);clear BW b9;have BW:=BN;clear BN;clear c0 c1 c2' c3 c4 c5 cf;obtain ⟨c0,c1,c2',c3,c4,c5,cf⟩:=Y3.out.next BW.out;clear k0 k1 k2 k3 k4 k5;obtain ⟨k0,k1,k2,k3,k4,k5⟩:=N0.out.keep (BW.out.block g2 G2L.out)))
   clear k0 k1 k2 k3 k4 k5
   have S:=hid ((R3.out.next BW.out).sets (.string op) (.string nm) (.int .i64 (kd:Nat)) (.int .i64 n) (.int .i64 (pl:Nat)) (.slice (some ⟨g2,0,none⟩) 2 c2))
   have BF:=hid (Below.put6X (nextB A3.out BW.out) (q:=p2) P3.out (.string op) (.string nm) (.int .i64 (kd:Nat)) (.int .i64 n) (.int .i64 (pl:Nat)) (.slice (some ⟨g2,0,none⟩) 2 c2))
   have NF:=hid ((HR.out.any BW.out).keep (S':=fun g=>w.heap.size≤g) fun g s l=>⟨LO.out g s,heap6 _ p2 (.string op) (.string nm) (.int .i64 (kd:Nat)) (.int .i64 n) (.int .i64 (pl:Nat)) (.slice (some ⟨g2,0,none⟩) 2 c2) g (HP.out g s)⟩)
   obtain ⟨z0,z1,z2,z3,z4,z5,zf⟩:=R3.out.next BW.out
   go_wp2_with fail
   clear c0 c1 c2' c3 c4 c5 cf
   clear z0 z1 z2 z3 z4 z5 zf
   generalize World.setCell _ ⟨p2,5,none⟩ _=wf at *
   obtain ⟨f0,f1,f2,f3,f4,f5,_⟩:=S.out
   try simp only [Exit.inBlock,Exit.then]
   refine bodyPost_ret (v:=.agg #[.string op,.string nm,.int .i64 (kd:Nat),.int .i64 n,.int .i64 (pl:Nat),.slice (some ⟨g2,0,none⟩) 2 c2]) (by simp [results,Tryd.results10,go_sem,f0,f1,f2,f3,f4,f5]) rfl ?_
   rw [E.out]
   exact ⟨_,rfl,⟨_,rfl,NF.out⟩,BF.out⟩
set_option maxRecDepth 100000 in
set_option maxHeartbeats 8000000 in
theorem ex_and (nm:ByteArray) (kd:Nat) (n:Int) (pl:Nat) (x y:Tr) (hb:∀ k,k ∈ ([x,y]:List Tr)→BdN (fdE k).n) (ih:∀ k,k ∈ ([x,y]:List Tr)→ExC k):ExC (.nd ⟨#[97,110,100]⟩ nm kd n pl [x,y]):=by
 intro S w v hT hv
 obtain ⟨se,rfl,hd⟩:=hv
 obtain ⟨sa,sc,rfl⟩:=hd.len2
 replace hd:Nd w S (.slice sa 2 sc) [x,y]:=hd
 show Calls _ _ #[.agg #[.string ⟨#[97,110,100]⟩,.string nm,.int .i64 (kd:Nat),.int .i64 n,.int .i64 (pl:Nat),.slice sa 2 sc]] _ _
 have sz1:(w.alloc (.cells #[.string ⟨#[97,110,100]⟩,.string nm,.int .i64 (kd:Nat),.int .i64 n,.int .i64 (pl:Nat),.slice sa 2 sc] 28)).heap.size=w.heap.size+1:=by simp
 have A1:=hid (show Below w.heap.size w ((w.alloc (.cells #[.string ⟨#[97,110,100]⟩,.string nm,.int .i64 (kd:Nat),.int .i64 n,.int .i64 (pl:Nat),.slice sa 2 sc] 28)).alloc (.cells #[.string ⟨#[]⟩,.string ⟨#[]⟩,.int .i64 0,.int .i64 0,.int .i64 0,.slice none 0 0] 28)) from ((Below.refl _ _).alloc (Nat.le_refl _) _).alloc (by simp) _)
 have X1:=hid (show B6 ((w.alloc (.cells #[.string ⟨#[97,110,100]⟩,.string nm,.int .i64 (kd:Nat),.int .i64 n,.int .i64 (pl:Nat),.slice sa 2 sc] 28)).alloc (.cells #[.string ⟨#[]⟩,.string ⟨#[]⟩,.int .i64 0,.int .i64 0,.int .i64 0,.slice none 0 0] 28)) w.heap.size (.string ⟨#[97,110,100]⟩) (.string nm) (.int .i64 (kd:Nat)) (.int .i64 n) (.int .i64 (pl:Nat)) (.slice sa 2 sc) from by
  have h:=(B6.new w 28 (.string ⟨#[97,110,100]⟩) (.string nm) (.int .i64 (kd:Nat)) (.int .i64 n) (.int .i64 (pl:Nat)) (.slice sa 2 sc)).next ((Below.refl _ _).alloc (Nat.le_refl _) (.cells #[.string ⟨#[]⟩,.string ⟨#[]⟩,.int .i64 0,.int .i64 0,.int .i64 0,.slice none 0 0] 28))
  exact h)
 have X2:=hid (show B6 ((w.alloc (.cells #[.string ⟨#[97,110,100]⟩,.string nm,.int .i64 (kd:Nat),.int .i64 n,.int .i64 (pl:Nat),.slice sa 2 sc] 28)).alloc (.cells #[.string ⟨#[]⟩,.string ⟨#[]⟩,.int .i64 0,.int .i64 0,.int .i64 0,.slice none 0 0] 28)) (w.heap.size+1) (.string ⟨#[]⟩) (.string ⟨#[]⟩) (.int .i64 0) (.int .i64 0) (.int .i64 0) (.slice none 0 0) from by
  have h:=B6.new (w.alloc (.cells #[.string ⟨#[97,110,100]⟩,.string nm,.int .i64 (kd:Nat),.int .i64 n,.int .i64 (pl:Nat),.slice sa 2 sc] 28)) 28 (.string ⟨#[]⟩) (.string ⟨#[]⟩) (.int .i64 0) (.int .i64 0) (.int .i64 0) (.slice none 0 0)
  rw [sz1] at h
  exact h)
 clear sz1
 have HD1:=hid (hd.any A1.out)
 have T1:=hid (hT.next A1.out)
 have KE:=hid (show ∀ W,TabU W→Nd W S (.slice sa 2 sc) [x,y]→Calls Tryd.prog 16 #[.slice sa 2 sc,.func (.func 10) #[] #[]] W fun e w'=>∃ v',e=.returned v'∧Nd w' (fun g=>W.heap.size≤g) v' [fdE x,fdE y]∧Below W.heap.size W w' from fun W hT hW=>each_fold_Expr fdE [x,y] S W (.slice sa 2 sc) hW (by simp) hT (fun k hk w1 v1 hT1 hv1=>ih k hk S w1 v1 hT1 hv1))
 have M0:=hid (hb x (by simp))
 have M1:=hid (hb y (by simp))
 have E0:=hid (show fdE (.nd ⟨#[97,110,100]⟩ nm kd n pl [x,y])=stpE (.nd ⟨#[97,110,100]⟩ nm kd n pl [fdE x,fdE y]) from by rw [fdE];rw [fdL,fdL,fdL])
 generalize fdE (.nd ⟨#[97,110,100]⟩ nm kd n pl [x,y])=RT at *
 have TG:=hid (show 0<w.heap.size from hT.1)
 clear hd hT hb ih
 go_enter Tryd.func10,Tryd.ntmps10
 go_upto_region 1 with fail
 generalize World.alloc (World.alloc w _) _=w1 at *
 have P3:=hid (show w.heap.size≤w.heap.size+1 by omega)
 have PX:=hid (show w.heap.size≠w.heap.size+1 by omega)
 have P2L:=hid X2.out.lt
 have P1L:=hid X1.out.lt
 generalize w.heap.size+1=p2 at *
 obtain ⟨c0,c1,c2',c3,c4,c5,cf⟩:=X1.out
 go_upto_region 2 with (go_at_call 16;with_reducible refine Calls.mono (KE.out _ T1.out HD1.out) ?_;rintro e9 w2 ⟨v2,rfl,nq,b2⟩;have B2:=hid b2;have ND2:=hid nq;obtain ⟨g2,c2,a0,m0,u0,a1,m1,u1,rfl,sg,n0,n1,d0,d1⟩:=Nd.k2 nq;have SG:=hid sg;have NN0:=hid n0;have DD0:=hid d0;clear n0 d0;have NN1:=hid n1;have DD1:=hid d1;clear n1 d1;clear sg;clear nq b2 c0 c1 c2' c3 c4 c5 cf;obtain ⟨c0,c1,c2',c3,c4,c5,cf⟩:=X1.out.next B2.out)
 clear c0 c1 c2' c3 c4 c5 cf KE
 have HK:=hid (show ∀ g,w1.heap.size≤g→(w2.setCell ⟨w.heap.size,5,none⟩ (.slice (some ⟨g2,0,none⟩) 2 c2)).heap[g]?=w2.heap[g]? from fun g hg=>Below.heap_setCell w2 ⟨w.heap.size,5,none⟩ (.slice (some ⟨g2,0,none⟩) 2 c2) g (by have:=P1L.out;show g≠w.heap.size;omega))
 have Y3:=hid ((X1.out.next B2.out).set5 (.slice (some ⟨g2,0,none⟩) 2 c2))
 have R3:=hid ((X2.out.next B2.out).put (q:=w.heap.size) (i:=5) (by have:=PX.out;omega) (.slice (some ⟨g2,0,none⟩) 2 c2))
 have A3:=hid ((nextB A1.out B2.out).setCell (p:=⟨w.heap.size,5,none⟩) (Nat.le_refl _) (.slice (some ⟨g2,0,none⟩) 2 c2))
 have T3:=hid ((T1.out.next B2.out).keep (w':=w2.setCell ⟨w.heap.size,5,none⟩ (.slice (some ⟨g2,0,none⟩) 2 c2)) (by simp) (Below.heap_setCell w2 ⟨w.heap.size,5,none⟩ (.slice (some ⟨g2,0,none⟩) 2 c2) 0 (by have:=TG.out;show 0≠w.heap.size;omega)))
 have SZ:=hid (show (w2.setCell ⟨w.heap.size,5,none⟩ (.slice (some ⟨g2,0,none⟩) 2 c2)).heap.size=w2.heap.size from by simp)
 have HR:=hid (ND2.out.keep (w':=w2.setCell ⟨w.heap.size,5,none⟩ (.slice (some ⟨g2,0,none⟩) 2 c2)) (S':=fun g=>w1.heap.size≤g∧g<(w2.setCell ⟨w.heap.size,5,none⟩ (.slice (some ⟨g2,0,none⟩) 2 c2)).heap.size) fun g s l=>⟨⟨s,by rw [SZ.out];exact l⟩,HK.out g s⟩)
 have N0:=hid (NN0.out.keep (HK.out g2 SG.out))
 have D0:=hid (DD0.out.keep (w':=w2.setCell ⟨w.heap.size,5,none⟩ (.slice (some ⟨g2,0,none⟩) 2 c2)) (S':=fun g=>w1.heap.size≤g∧g<(w2.setCell ⟨w.heap.size,5,none⟩ (.slice (some ⟨g2,0,none⟩) 2 c2)).heap.size) fun g s l=>⟨⟨s,by rw [SZ.out];exact l⟩,HK.out g s⟩)
 have N1:=hid (NN1.out.keep (HK.out g2 SG.out))
 have D1:=hid (DD1.out.keep (w':=w2.setCell ⟨w.heap.size,5,none⟩ (.slice (some ⟨g2,0,none⟩) 2 c2)) (S':=fun g=>w1.heap.size≤g∧g<(w2.setCell ⟨w.heap.size,5,none⟩ (.slice (some ⟨g2,0,none⟩) 2 c2)).heap.size) fun g s l=>⟨⟨s,by rw [SZ.out];exact l⟩,HK.out g s⟩)
 have GQ:=hid SG.out
 have G2L:=hid (World.block_lt_of_cell? _ _ N0.out.e0)
 clear X1 X2 A1 T1 HD1 B2 ND2 SZ HK TG SG NN0 DD0 NN1 DD1
 generalize World.setCell w2 _ _=w3 at *
 generalize fdE x=X at *
 generalize fdE y=Y at *
 have LO:=hid (show ∀ g,(w1.heap.size≤g∧g<w3.heap.size)→w.heap.size≤g from fun g s=>by have:=P1L.out;omega)
 have HP:=hid (show ∀ g,(w1.heap.size≤g∧g<w3.heap.size)→g≠p2 from fun g s=>by have:=P2L.out;omega)
 have BW:=hid (Below.refl w3.heap.size w3)
 obtain ⟨c0,c1,c2',c3,c4,c5,cf⟩:=Y3.out
 cases q0:ltB X with
 | true =>
  have K0:=hid (show ∀ W,Below w3.heap.size w3 W→Calls Tryd.prog 19 #[.agg #[.string X.op,.string X.name,.int .i64 (X.kind:Nat),.int .i64 X.n,.int .i64 (X.pl:Nat),.slice a0 m0 u0]] W fun e w'=>e=.returned (.bool true)∧Below W.heap.size W w' from fun W hW=>by have h:=isLit_any X (.slice a0 m0 u0) _ W (D0.out.any hW);rw [q0] at h;exact h)
  have E:=hid (show RT=(if ¬ X.n=1 then X else Y) from E0.out.trans (stp_and q0))
  have KC:=hid (show ∀ W,Below w3.heap.size w3 W→Calls Tryd.prog 21 #[.agg #[.string ⟨#[97,110,100]⟩,.string nm,.int .i64 (kd:Nat),.int .i64 n,.int .i64 (pl:Nat),.slice (some ⟨g2,0,none⟩) 2 c2]] W fun e' w'=>∃ (ta:Option Addr) (tm tc:Nat),e'=.returned (.agg #[.string RT.op,.string RT.name,.int .i64 (RT.kind:Nat),.int .i64 RT.n,.int .i64 (RT.pl:Nat),.slice ta tm tc])∧Nd w' (fun g=>w1.heap.size≤g∧g<w3.heap.size) (.slice ta tm tc) RT.kids∧Below W.heap.size W w' from fun W hW=>by
   rw [E.out]
   refine (conn_and nm kd n pl X Y (.slice (some ⟨g2,0,none⟩) 2 c2) _ W (fun g s=>Nat.lt_of_lt_of_le s.2 hW.size) (HR.out.any hW)).mono ?_
   rintro e9 w9 ⟨v9,rfl,⟨s9,rfl,n9⟩,b9⟩
   obtain ⟨ta,tm,tc,rfl⟩:=n9.slice
   exact ⟨ta,tm,tc,rfl,n9,b9⟩)
  clear q0 E0
  obtain ⟨k0,k1,k2,k3,k4,k5⟩:=N0.out
  go_upto_region 24 with (go_at_call 19;with_reducible refine Calls.mono (K0.out _ BW.out) ?_;rintro e9 wn ⟨rfl,b9⟩;have BN:=hid (nextB BW.out b9);clear BW b9;have BW:=BN;clear BN;clear c0 c1 c2' c3 c4 c5 cf;obtain ⟨c0,c1,c2',c3,c4,c5,cf⟩:=Y3.out.next BW.out)
  clear k0 k1 k2 k3 k4 k5
  go_wp2_with (go_at_call 21;with_reducible refine Calls.mono (KC.out _ BW.out) ?_;rintro e9 wm ⟨ta,tm,tc,rfl,n9,b9⟩;have N9:=hid n9;have BM:=hid (nextB BW.out b9);clear n9 b9;obtain ⟨z0,z1,z2,z3,z4,z5,zf⟩:=R3.out.next BM.out)
  have S:=hid ((R3.out.next BM.out).sets (.string RT.op) (.string RT.name) (.int .i64 (RT.kind:Nat)) (.int .i64 RT.n) (.int .i64 (RT.pl:Nat)) (.slice ta tm tc))
  have BF:=hid (Below.put6X (nextB A3.out BM.out) (q:=p2) P3.out (.string RT.op) (.string RT.name) (.int .i64 (RT.kind:Nat)) (.int .i64 RT.n) (.int .i64 (RT.pl:Nat)) (.slice ta tm tc))
  have NF:=hid (N9.out.keep (S':=fun g=>w.heap.size≤g) fun g s l=>⟨LO.out g s,heap6 _ p2 (.string RT.op) (.string RT.name) (.int .i64 (RT.kind:Nat)) (.int .i64 RT.n) (.int .i64 (RT.pl:Nat)) (.slice ta tm tc) g (HP.out g s)⟩)
  clear c0 c1 c2' c3 c4 c5 cf
  clear z0 z1 z2 z3 z4 z5 zf
  generalize World.setCell _ ⟨p2,5,none⟩ _=wf at *
  obtain ⟨f0,f1,f2,f3,f4,f5,_⟩:=S.out
  try simp only [Exit.inBlock,Exit.then]
  refine bodyPost_ret (v:=.agg #[.string RT.op,.string RT.name,.int .i64 (RT.kind:Nat),.int .i64 RT.n,.int .i64 (RT.pl:Nat),.slice ta tm tc]) (by simp [results,Tryd.results10,go_sem,f0,f1,f2,f3,f4,f5]) rfl ?_
  exact ⟨_,rfl,⟨_,rfl,NF.out⟩,BF.out⟩
 | false =>
  have K0:=hid (show ∀ W,Below w3.heap.size w3 W→Calls Tryd.prog 19 #[.agg #[.string X.op,.string X.name,.int .i64 (X.kind:Nat),.int .i64 X.n,.int .i64 (X.pl:Nat),.slice a0 m0 u0]] W fun e w'=>e=.returned (.bool false)∧Below W.heap.size W w' from fun W hW=>by have h:=isLit_any X (.slice a0 m0 u0) _ W (D0.out.any hW);rw [q0] at h;exact h)
  have E:=hid (show RT=(.nd ⟨#[97,110,100]⟩ nm kd n pl [X,Y]) from E0.out.trans (stp_c2 rfl q0))
  clear q0 E0
  obtain ⟨k0,k1,k2,k3,k4,k5⟩:=N0.out
  go_upto_region 28 with (go_at_call 19;with_reducible refine Calls.mono (K0.out _ BW.out) ?_;rintro e9 wn ⟨rfl,b9⟩;have BN:=hid (nextB BW.out b9);clear BW b9;have BW:=BN;clear BN;clear c0 c1 c2' c3 c4 c5 cf;obtain ⟨c0,c1,c2',c3,c4,c5,cf⟩:=Y3.out.next BW.out;clear k0 k1 k2 k3 k4 k5;obtain ⟨k0,k1,k2,k3,k4,k5⟩:=N0.out.keep (BW.out.block g2 G2L.out))
  clear k0 k1 k2 k3 k4 k5
  have S:=hid ((R3.out.next BW.out).sets (.string ⟨#[97,110,100]⟩) (.string nm) (.int .i64 (kd:Nat)) (.int .i64 n) (.int .i64 (pl:Nat)) (.slice (some ⟨g2,0,none⟩) 2 c2))
  have BF:=hid (Below.put6X (nextB A3.out BW.out) (q:=p2) P3.out (.string ⟨#[97,110,100]⟩) (.string nm) (.int .i64 (kd:Nat)) (.int .i64 n) (.int .i64 (pl:Nat)) (.slice (some ⟨g2,0,none⟩) 2 c2))
  have NF:=hid ((HR.out.any BW.out).keep (S':=fun g=>w.heap.size≤g) fun g s l=>⟨LO.out g s,heap6 _ p2 (.string ⟨#[97,110,100]⟩) (.string nm) (.int .i64 (kd:Nat)) (.int .i64 n) (.int .i64 (pl:Nat)) (.slice (some ⟨g2,0,none⟩) 2 c2) g (HP.out g s)⟩)
  obtain ⟨z0,z1,z2,z3,z4,z5,zf⟩:=R3.out.next BW.out
  go_wp2_with fail
  clear c0 c1 c2' c3 c4 c5 cf
  clear z0 z1 z2 z3 z4 z5 zf
  generalize World.setCell _ ⟨p2,5,none⟩ _=wf at *
  obtain ⟨f0,f1,f2,f3,f4,f5,_⟩:=S.out
  try simp only [Exit.inBlock,Exit.then]
  refine bodyPost_ret (v:=.agg #[.string ⟨#[97,110,100]⟩,.string nm,.int .i64 (kd:Nat),.int .i64 n,.int .i64 (pl:Nat),.slice (some ⟨g2,0,none⟩) 2 c2]) (by simp [results,Tryd.results10,go_sem,f0,f1,f2,f3,f4,f5]) rfl ?_
  rw [E.out]
  exact ⟨_,rfl,⟨_,rfl,NF.out⟩,BF.out⟩
set_option maxRecDepth 100000 in
set_option maxHeartbeats 8000000 in
theorem ex_or (nm:ByteArray) (kd:Nat) (n:Int) (pl:Nat) (x y:Tr) (hb:∀ k,k ∈ ([x,y]:List Tr)→BdN (fdE k).n) (ih:∀ k,k ∈ ([x,y]:List Tr)→ExC k):ExC (.nd ⟨#[111,114]⟩ nm kd n pl [x,y]):=by
 intro S w v hT hv
 obtain ⟨se,rfl,hd⟩:=hv
 obtain ⟨sa,sc,rfl⟩:=hd.len2
 replace hd:Nd w S (.slice sa 2 sc) [x,y]:=hd
 show Calls _ _ #[.agg #[.string ⟨#[111,114]⟩,.string nm,.int .i64 (kd:Nat),.int .i64 n,.int .i64 (pl:Nat),.slice sa 2 sc]] _ _
 have sz1:(w.alloc (.cells #[.string ⟨#[111,114]⟩,.string nm,.int .i64 (kd:Nat),.int .i64 n,.int .i64 (pl:Nat),.slice sa 2 sc] 28)).heap.size=w.heap.size+1:=by simp
 have A1:=hid (show Below w.heap.size w ((w.alloc (.cells #[.string ⟨#[111,114]⟩,.string nm,.int .i64 (kd:Nat),.int .i64 n,.int .i64 (pl:Nat),.slice sa 2 sc] 28)).alloc (.cells #[.string ⟨#[]⟩,.string ⟨#[]⟩,.int .i64 0,.int .i64 0,.int .i64 0,.slice none 0 0] 28)) from ((Below.refl _ _).alloc (Nat.le_refl _) _).alloc (by simp) _)
 have X1:=hid (show B6 ((w.alloc (.cells #[.string ⟨#[111,114]⟩,.string nm,.int .i64 (kd:Nat),.int .i64 n,.int .i64 (pl:Nat),.slice sa 2 sc] 28)).alloc (.cells #[.string ⟨#[]⟩,.string ⟨#[]⟩,.int .i64 0,.int .i64 0,.int .i64 0,.slice none 0 0] 28)) w.heap.size (.string ⟨#[111,114]⟩) (.string nm) (.int .i64 (kd:Nat)) (.int .i64 n) (.int .i64 (pl:Nat)) (.slice sa 2 sc) from by
  have h:=(B6.new w 28 (.string ⟨#[111,114]⟩) (.string nm) (.int .i64 (kd:Nat)) (.int .i64 n) (.int .i64 (pl:Nat)) (.slice sa 2 sc)).next ((Below.refl _ _).alloc (Nat.le_refl _) (.cells #[.string ⟨#[]⟩,.string ⟨#[]⟩,.int .i64 0,.int .i64 0,.int .i64 0,.slice none 0 0] 28))
  exact h)
 have X2:=hid (show B6 ((w.alloc (.cells #[.string ⟨#[111,114]⟩,.string nm,.int .i64 (kd:Nat),.int .i64 n,.int .i64 (pl:Nat),.slice sa 2 sc] 28)).alloc (.cells #[.string ⟨#[]⟩,.string ⟨#[]⟩,.int .i64 0,.int .i64 0,.int .i64 0,.slice none 0 0] 28)) (w.heap.size+1) (.string ⟨#[]⟩) (.string ⟨#[]⟩) (.int .i64 0) (.int .i64 0) (.int .i64 0) (.slice none 0 0) from by
  have h:=B6.new (w.alloc (.cells #[.string ⟨#[111,114]⟩,.string nm,.int .i64 (kd:Nat),.int .i64 n,.int .i64 (pl:Nat),.slice sa 2 sc] 28)) 28 (.string ⟨#[]⟩) (.string ⟨#[]⟩) (.int .i64 0) (.int .i64 0) (.int .i64 0) (.slice none 0 0)
  rw [sz1] at h
  exact h)
 clear sz1
 have HD1:=hid (hd.any A1.out)
 have T1:=hid (hT.next A1.out)
 have KE:=hid (show ∀ W,TabU W→Nd W S (.slice sa 2 sc) [x,y]→Calls Tryd.prog 16 #[.slice sa 2 sc,.func (.func 10) #[] #[]] W fun e w'=>∃ v',e=.returned v'∧Nd w' (fun g=>W.heap.size≤g) v' [fdE x,fdE y]∧Below W.heap.size W w' from fun W hT hW=>each_fold_Expr fdE [x,y] S W (.slice sa 2 sc) hW (by simp) hT (fun k hk w1 v1 hT1 hv1=>ih k hk S w1 v1 hT1 hv1))
 have M0:=hid (hb x (by simp))
 have M1:=hid (hb y (by simp))
 have E0:=hid (show fdE (.nd ⟨#[111,114]⟩ nm kd n pl [x,y])=stpE (.nd ⟨#[111,114]⟩ nm kd n pl [fdE x,fdE y]) from by rw [fdE];rw [fdL,fdL,fdL])
 generalize fdE (.nd ⟨#[111,114]⟩ nm kd n pl [x,y])=RT at *
 have TG:=hid (show 0<w.heap.size from hT.1)
 clear hd hT hb ih
 go_enter Tryd.func10,Tryd.ntmps10
 go_upto_region 1 with fail
 generalize World.alloc (World.alloc w _) _=w1 at *
 have P3:=hid (show w.heap.size≤w.heap.size+1 by omega)
 have PX:=hid (show w.heap.size≠w.heap.size+1 by omega)
 have P2L:=hid X2.out.lt
 have P1L:=hid X1.out.lt
 generalize w.heap.size+1=p2 at *
 obtain ⟨c0,c1,c2',c3,c4,c5,cf⟩:=X1.out
 go_upto_region 2 with (go_at_call 16;with_reducible refine Calls.mono (KE.out _ T1.out HD1.out) ?_;rintro e9 w2 ⟨v2,rfl,nq,b2⟩;have B2:=hid b2;have ND2:=hid nq;obtain ⟨g2,c2,a0,m0,u0,a1,m1,u1,rfl,sg,n0,n1,d0,d1⟩:=Nd.k2 nq;have SG:=hid sg;have NN0:=hid n0;have DD0:=hid d0;clear n0 d0;have NN1:=hid n1;have DD1:=hid d1;clear n1 d1;clear sg;clear nq b2 c0 c1 c2' c3 c4 c5 cf;obtain ⟨c0,c1,c2',c3,c4,c5,cf⟩:=X1.out.next B2.out)
 clear c0 c1 c2' c3 c4 c5 cf KE
 have HK:=hid (show ∀ g,w1.heap.size≤g→(w2.setCell ⟨w.heap.size,5,none⟩ (.slice (some ⟨g2,0,none⟩) 2 c2)).heap[g]?=w2.heap[g]? from fun g hg=>Below.heap_setCell w2 ⟨w.heap.size,5,none⟩ (.slice (some ⟨g2,0,none⟩) 2 c2) g (by have:=P1L.out;show g≠w.heap.size;omega))
 have Y3:=hid ((X1.out.next B2.out).set5 (.slice (some ⟨g2,0,none⟩) 2 c2))
 have R3:=hid ((X2.out.next B2.out).put (q:=w.heap.size) (i:=5) (by have:=PX.out;omega) (.slice (some ⟨g2,0,none⟩) 2 c2))
 have A3:=hid ((nextB A1.out B2.out).setCell (p:=⟨w.heap.size,5,none⟩) (Nat.le_refl _) (.slice (some ⟨g2,0,none⟩) 2 c2))
 have T3:=hid ((T1.out.next B2.out).keep (w':=w2.setCell ⟨w.heap.size,5,none⟩ (.slice (some ⟨g2,0,none⟩) 2 c2)) (by simp) (Below.heap_setCell w2 ⟨w.heap.size,5,none⟩ (.slice (some ⟨g2,0,none⟩) 2 c2) 0 (by have:=TG.out;show 0≠w.heap.size;omega)))
 have SZ:=hid (show (w2.setCell ⟨w.heap.size,5,none⟩ (.slice (some ⟨g2,0,none⟩) 2 c2)).heap.size=w2.heap.size from by simp)
 have HR:=hid (ND2.out.keep (w':=w2.setCell ⟨w.heap.size,5,none⟩ (.slice (some ⟨g2,0,none⟩) 2 c2)) (S':=fun g=>w1.heap.size≤g∧g<(w2.setCell ⟨w.heap.size,5,none⟩ (.slice (some ⟨g2,0,none⟩) 2 c2)).heap.size) fun g s l=>⟨⟨s,by rw [SZ.out];exact l⟩,HK.out g s⟩)
 have N0:=hid (NN0.out.keep (HK.out g2 SG.out))
 have D0:=hid (DD0.out.keep (w':=w2.setCell ⟨w.heap.size,5,none⟩ (.slice (some ⟨g2,0,none⟩) 2 c2)) (S':=fun g=>w1.heap.size≤g∧g<(w2.setCell ⟨w.heap.size,5,none⟩ (.slice (some ⟨g2,0,none⟩) 2 c2)).heap.size) fun g s l=>⟨⟨s,by rw [SZ.out];exact l⟩,HK.out g s⟩)
 have N1:=hid (NN1.out.keep (HK.out g2 SG.out))
 have D1:=hid (DD1.out.keep (w':=w2.setCell ⟨w.heap.size,5,none⟩ (.slice (some ⟨g2,0,none⟩) 2 c2)) (S':=fun g=>w1.heap.size≤g∧g<(w2.setCell ⟨w.heap.size,5,none⟩ (.slice (some ⟨g2,0,none⟩) 2 c2)).heap.size) fun g s l=>⟨⟨s,by rw [SZ.out];exact l⟩,HK.out g s⟩)
 have GQ:=hid SG.out
 have G2L:=hid (World.block_lt_of_cell? _ _ N0.out.e0)
 clear X1 X2 A1 T1 HD1 B2 ND2 SZ HK TG SG NN0 DD0 NN1 DD1
 generalize World.setCell w2 _ _=w3 at *
 generalize fdE x=X at *
 generalize fdE y=Y at *
 have LO:=hid (show ∀ g,(w1.heap.size≤g∧g<w3.heap.size)→w.heap.size≤g from fun g s=>by have:=P1L.out;omega)
 have HP:=hid (show ∀ g,(w1.heap.size≤g∧g<w3.heap.size)→g≠p2 from fun g s=>by have:=P2L.out;omega)
 have BW:=hid (Below.refl w3.heap.size w3)
 obtain ⟨c0,c1,c2',c3,c4,c5,cf⟩:=Y3.out
 cases q0:ltB X with
 | true =>
  have K0:=hid (show ∀ W,Below w3.heap.size w3 W→Calls Tryd.prog 19 #[.agg #[.string X.op,.string X.name,.int .i64 (X.kind:Nat),.int .i64 X.n,.int .i64 (X.pl:Nat),.slice a0 m0 u0]] W fun e w'=>e=.returned (.bool true)∧Below W.heap.size W w' from fun W hW=>by have h:=isLit_any X (.slice a0 m0 u0) _ W (D0.out.any hW);rw [q0] at h;exact h)
  have E:=hid (show RT=(if X.n=1 then X else Y) from E0.out.trans (stp_or q0))
  have KC:=hid (show ∀ W,Below w3.heap.size w3 W→Calls Tryd.prog 21 #[.agg #[.string ⟨#[111,114]⟩,.string nm,.int .i64 (kd:Nat),.int .i64 n,.int .i64 (pl:Nat),.slice (some ⟨g2,0,none⟩) 2 c2]] W fun e' w'=>∃ (ta:Option Addr) (tm tc:Nat),e'=.returned (.agg #[.string RT.op,.string RT.name,.int .i64 (RT.kind:Nat),.int .i64 RT.n,.int .i64 (RT.pl:Nat),.slice ta tm tc])∧Nd w' (fun g=>w1.heap.size≤g∧g<w3.heap.size) (.slice ta tm tc) RT.kids∧Below W.heap.size W w' from fun W hW=>by
   rw [E.out]
   refine (conn_or nm kd n pl X Y (.slice (some ⟨g2,0,none⟩) 2 c2) _ W (fun g s=>Nat.lt_of_lt_of_le s.2 hW.size) (HR.out.any hW)).mono ?_
   rintro e9 w9 ⟨v9,rfl,⟨s9,rfl,n9⟩,b9⟩
   obtain ⟨ta,tm,tc,rfl⟩:=n9.slice
   exact ⟨ta,tm,tc,rfl,n9,b9⟩)
  clear q0 E0
  obtain ⟨k0,k1,k2,k3,k4,k5⟩:=N0.out
  go_upto_region 24 with (go_at_call 19;with_reducible refine Calls.mono (K0.out _ BW.out) ?_;rintro e9 wn ⟨rfl,b9⟩;have BN:=hid (nextB BW.out b9);clear BW b9;have BW:=BN;clear BN;clear c0 c1 c2' c3 c4 c5 cf;obtain ⟨c0,c1,c2',c3,c4,c5,cf⟩:=Y3.out.next BW.out)
  clear k0 k1 k2 k3 k4 k5
  go_wp2_with (go_at_call 21;with_reducible refine Calls.mono (KC.out _ BW.out) ?_;rintro e9 wm ⟨ta,tm,tc,rfl,n9,b9⟩;have N9:=hid n9;have BM:=hid (nextB BW.out b9);clear n9 b9;obtain ⟨z0,z1,z2,z3,z4,z5,zf⟩:=R3.out.next BM.out)
  have S:=hid ((R3.out.next BM.out).sets (.string RT.op) (.string RT.name) (.int .i64 (RT.kind:Nat)) (.int .i64 RT.n) (.int .i64 (RT.pl:Nat)) (.slice ta tm tc))
  have BF:=hid (Below.put6X (nextB A3.out BM.out) (q:=p2) P3.out (.string RT.op) (.string RT.name) (.int .i64 (RT.kind:Nat)) (.int .i64 RT.n) (.int .i64 (RT.pl:Nat)) (.slice ta tm tc))
  have NF:=hid (N9.out.keep (S':=fun g=>w.heap.size≤g) fun g s l=>⟨LO.out g s,heap6 _ p2 (.string RT.op) (.string RT.name) (.int .i64 (RT.kind:Nat)) (.int .i64 RT.n) (.int .i64 (RT.pl:Nat)) (.slice ta tm tc) g (HP.out g s)⟩)
  clear c0 c1 c2' c3 c4 c5 cf
  clear z0 z1 z2 z3 z4 z5 zf
  generalize World.setCell _ ⟨p2,5,none⟩ _=wf at *
  obtain ⟨f0,f1,f2,f3,f4,f5,_⟩:=S.out
  try simp only [Exit.inBlock,Exit.then]
  refine bodyPost_ret (v:=.agg #[.string RT.op,.string RT.name,.int .i64 (RT.kind:Nat),.int .i64 RT.n,.int .i64 (RT.pl:Nat),.slice ta tm tc]) (by simp [results,Tryd.results10,go_sem,f0,f1,f2,f3,f4,f5]) rfl ?_
  exact ⟨_,rfl,⟨_,rfl,NF.out⟩,BF.out⟩
 | false =>
  have K0:=hid (show ∀ W,Below w3.heap.size w3 W→Calls Tryd.prog 19 #[.agg #[.string X.op,.string X.name,.int .i64 (X.kind:Nat),.int .i64 X.n,.int .i64 (X.pl:Nat),.slice a0 m0 u0]] W fun e w'=>e=.returned (.bool false)∧Below W.heap.size W w' from fun W hW=>by have h:=isLit_any X (.slice a0 m0 u0) _ W (D0.out.any hW);rw [q0] at h;exact h)
  have E:=hid (show RT=(.nd ⟨#[111,114]⟩ nm kd n pl [X,Y]) from E0.out.trans (stp_c2 rfl q0))
  clear q0 E0
  obtain ⟨k0,k1,k2,k3,k4,k5⟩:=N0.out
  go_upto_region 28 with (go_at_call 19;with_reducible refine Calls.mono (K0.out _ BW.out) ?_;rintro e9 wn ⟨rfl,b9⟩;have BN:=hid (nextB BW.out b9);clear BW b9;have BW:=BN;clear BN;clear c0 c1 c2' c3 c4 c5 cf;obtain ⟨c0,c1,c2',c3,c4,c5,cf⟩:=Y3.out.next BW.out;clear k0 k1 k2 k3 k4 k5;obtain ⟨k0,k1,k2,k3,k4,k5⟩:=N0.out.keep (BW.out.block g2 G2L.out))
  clear k0 k1 k2 k3 k4 k5
  have S:=hid ((R3.out.next BW.out).sets (.string ⟨#[111,114]⟩) (.string nm) (.int .i64 (kd:Nat)) (.int .i64 n) (.int .i64 (pl:Nat)) (.slice (some ⟨g2,0,none⟩) 2 c2))
  have BF:=hid (Below.put6X (nextB A3.out BW.out) (q:=p2) P3.out (.string ⟨#[111,114]⟩) (.string nm) (.int .i64 (kd:Nat)) (.int .i64 n) (.int .i64 (pl:Nat)) (.slice (some ⟨g2,0,none⟩) 2 c2))
  have NF:=hid ((HR.out.any BW.out).keep (S':=fun g=>w.heap.size≤g) fun g s l=>⟨LO.out g s,heap6 _ p2 (.string ⟨#[111,114]⟩) (.string nm) (.int .i64 (kd:Nat)) (.int .i64 n) (.int .i64 (pl:Nat)) (.slice (some ⟨g2,0,none⟩) 2 c2) g (HP.out g s)⟩)
  obtain ⟨z0,z1,z2,z3,z4,z5,zf⟩:=R3.out.next BW.out
  go_wp2_with fail
  clear c0 c1 c2' c3 c4 c5 cf
  clear z0 z1 z2 z3 z4 z5 zf
  generalize World.setCell _ ⟨p2,5,none⟩ _=wf at *
  obtain ⟨f0,f1,f2,f3,f4,f5,_⟩:=S.out
  try simp only [Exit.inBlock,Exit.then]
  refine bodyPost_ret (v:=.agg #[.string ⟨#[111,114]⟩,.string nm,.int .i64 (kd:Nat),.int .i64 n,.int .i64 (pl:Nat),.slice (some ⟨g2,0,none⟩) 2 c2]) (by simp [results,Tryd.results10,go_sem,f0,f1,f2,f3,f4,f5]) rfl ?_
  rw [E.out]
  exact ⟨_,rfl,⟨_,rfl,NF.out⟩,BF.out⟩
set_option maxRecDepth 100000 in
set_option maxHeartbeats 8000000 in
theorem ex_if (nm:ByteArray) (kd:Nat) (n:Int) (pl:Nat) (x y z:Tr) (hb:∀ k,k ∈ ([x,y,z]:List Tr)→BdN (fdE k).n) (ih:∀ k,k ∈ ([x,y,z]:List Tr)→ExC k):ExC (.nd ⟨#[105,102]⟩ nm kd n pl [x,y,z]):=by
 intro S w v hT hv
 obtain ⟨se,rfl,hd⟩:=hv
 obtain ⟨sa,sc,rfl⟩:=hd.len2
 replace hd:Nd w S (.slice sa 3 sc) [x,y,z]:=hd
 show Calls _ _ #[.agg #[.string ⟨#[105,102]⟩,.string nm,.int .i64 (kd:Nat),.int .i64 n,.int .i64 (pl:Nat),.slice sa 3 sc]] _ _
 have sz1:(w.alloc (.cells #[.string ⟨#[105,102]⟩,.string nm,.int .i64 (kd:Nat),.int .i64 n,.int .i64 (pl:Nat),.slice sa 3 sc] 28)).heap.size=w.heap.size+1:=by simp
 have A1:=hid (show Below w.heap.size w ((w.alloc (.cells #[.string ⟨#[105,102]⟩,.string nm,.int .i64 (kd:Nat),.int .i64 n,.int .i64 (pl:Nat),.slice sa 3 sc] 28)).alloc (.cells #[.string ⟨#[]⟩,.string ⟨#[]⟩,.int .i64 0,.int .i64 0,.int .i64 0,.slice none 0 0] 28)) from ((Below.refl _ _).alloc (Nat.le_refl _) _).alloc (by simp) _)
 have X1:=hid (show B6 ((w.alloc (.cells #[.string ⟨#[105,102]⟩,.string nm,.int .i64 (kd:Nat),.int .i64 n,.int .i64 (pl:Nat),.slice sa 3 sc] 28)).alloc (.cells #[.string ⟨#[]⟩,.string ⟨#[]⟩,.int .i64 0,.int .i64 0,.int .i64 0,.slice none 0 0] 28)) w.heap.size (.string ⟨#[105,102]⟩) (.string nm) (.int .i64 (kd:Nat)) (.int .i64 n) (.int .i64 (pl:Nat)) (.slice sa 3 sc) from by
  have h:=(B6.new w 28 (.string ⟨#[105,102]⟩) (.string nm) (.int .i64 (kd:Nat)) (.int .i64 n) (.int .i64 (pl:Nat)) (.slice sa 3 sc)).next ((Below.refl _ _).alloc (Nat.le_refl _) (.cells #[.string ⟨#[]⟩,.string ⟨#[]⟩,.int .i64 0,.int .i64 0,.int .i64 0,.slice none 0 0] 28))
  exact h)
 have X2:=hid (show B6 ((w.alloc (.cells #[.string ⟨#[105,102]⟩,.string nm,.int .i64 (kd:Nat),.int .i64 n,.int .i64 (pl:Nat),.slice sa 3 sc] 28)).alloc (.cells #[.string ⟨#[]⟩,.string ⟨#[]⟩,.int .i64 0,.int .i64 0,.int .i64 0,.slice none 0 0] 28)) (w.heap.size+1) (.string ⟨#[]⟩) (.string ⟨#[]⟩) (.int .i64 0) (.int .i64 0) (.int .i64 0) (.slice none 0 0) from by
  have h:=B6.new (w.alloc (.cells #[.string ⟨#[105,102]⟩,.string nm,.int .i64 (kd:Nat),.int .i64 n,.int .i64 (pl:Nat),.slice sa 3 sc] 28)) 28 (.string ⟨#[]⟩) (.string ⟨#[]⟩) (.int .i64 0) (.int .i64 0) (.int .i64 0) (.slice none 0 0)
  rw [sz1] at h
  exact h)
 clear sz1
 have HD1:=hid (hd.any A1.out)
 have T1:=hid (hT.next A1.out)
 have KE:=hid (show ∀ W,TabU W→Nd W S (.slice sa 3 sc) [x,y,z]→Calls Tryd.prog 16 #[.slice sa 3 sc,.func (.func 10) #[] #[]] W fun e w'=>∃ v',e=.returned v'∧Nd w' (fun g=>W.heap.size≤g) v' [fdE x,fdE y,fdE z]∧Below W.heap.size W w' from fun W hT hW=>each_fold_Expr fdE [x,y,z] S W (.slice sa 3 sc) hW (by simp) hT (fun k hk w1 v1 hT1 hv1=>ih k hk S w1 v1 hT1 hv1))
 have M0:=hid (hb x (by simp))
 have M1:=hid (hb y (by simp))
 have M2:=hid (hb z (by simp))
 have E0:=hid (show fdE (.nd ⟨#[105,102]⟩ nm kd n pl [x,y,z])=stpE (.nd ⟨#[105,102]⟩ nm kd n pl [fdE x,fdE y,fdE z]) from by rw [fdE];rw [fdL,fdL,fdL,fdL])
 generalize fdE (.nd ⟨#[105,102]⟩ nm kd n pl [x,y,z])=RT at *
 have TG:=hid (show 0<w.heap.size from hT.1)
 clear hd hT hb ih
 go_enter Tryd.func10,Tryd.ntmps10
 go_upto_region 1 with fail
 generalize World.alloc (World.alloc w _) _=w1 at *
 have P3:=hid (show w.heap.size≤w.heap.size+1 by omega)
 have PX:=hid (show w.heap.size≠w.heap.size+1 by omega)
 have P2L:=hid X2.out.lt
 have P1L:=hid X1.out.lt
 generalize w.heap.size+1=p2 at *
 obtain ⟨c0,c1,c2',c3,c4,c5,cf⟩:=X1.out
 go_upto_region 2 with (go_at_call 16;with_reducible refine Calls.mono (KE.out _ T1.out HD1.out) ?_;rintro e9 w2 ⟨v2,rfl,nq,b2⟩;have B2:=hid b2;have ND2:=hid nq;obtain ⟨g2,c2,a0,m0,u0,a1,m1,u1,a2,m2,u2,rfl,sg,n0,n1,n2,d0,d1,d2⟩:=Nd.k3 nq;have SG:=hid sg;have NN0:=hid n0;have DD0:=hid d0;clear n0 d0;have NN1:=hid n1;have DD1:=hid d1;clear n1 d1;have NN2:=hid n2;have DD2:=hid d2;clear n2 d2;clear sg;clear nq b2 c0 c1 c2' c3 c4 c5 cf;obtain ⟨c0,c1,c2',c3,c4,c5,cf⟩:=X1.out.next B2.out)
 clear c0 c1 c2' c3 c4 c5 cf KE
 have HK:=hid (show ∀ g,w1.heap.size≤g→(w2.setCell ⟨w.heap.size,5,none⟩ (.slice (some ⟨g2,0,none⟩) 3 c2)).heap[g]?=w2.heap[g]? from fun g hg=>Below.heap_setCell w2 ⟨w.heap.size,5,none⟩ (.slice (some ⟨g2,0,none⟩) 3 c2) g (by have:=P1L.out;show g≠w.heap.size;omega))
 have Y3:=hid ((X1.out.next B2.out).set5 (.slice (some ⟨g2,0,none⟩) 3 c2))
 have R3:=hid ((X2.out.next B2.out).put (q:=w.heap.size) (i:=5) (by have:=PX.out;omega) (.slice (some ⟨g2,0,none⟩) 3 c2))
 have A3:=hid ((nextB A1.out B2.out).setCell (p:=⟨w.heap.size,5,none⟩) (Nat.le_refl _) (.slice (some ⟨g2,0,none⟩) 3 c2))
 have T3:=hid ((T1.out.next B2.out).keep (w':=w2.setCell ⟨w.heap.size,5,none⟩ (.slice (some ⟨g2,0,none⟩) 3 c2)) (by simp) (Below.heap_setCell w2 ⟨w.heap.size,5,none⟩ (.slice (some ⟨g2,0,none⟩) 3 c2) 0 (by have:=TG.out;show 0≠w.heap.size;omega)))
 have SZ:=hid (show (w2.setCell ⟨w.heap.size,5,none⟩ (.slice (some ⟨g2,0,none⟩) 3 c2)).heap.size=w2.heap.size from by simp)
 have HR:=hid (ND2.out.keep (w':=w2.setCell ⟨w.heap.size,5,none⟩ (.slice (some ⟨g2,0,none⟩) 3 c2)) (S':=fun g=>w1.heap.size≤g∧g<(w2.setCell ⟨w.heap.size,5,none⟩ (.slice (some ⟨g2,0,none⟩) 3 c2)).heap.size) fun g s l=>⟨⟨s,by rw [SZ.out];exact l⟩,HK.out g s⟩)
 have N0:=hid (NN0.out.keep (HK.out g2 SG.out))
 have D0:=hid (DD0.out.keep (w':=w2.setCell ⟨w.heap.size,5,none⟩ (.slice (some ⟨g2,0,none⟩) 3 c2)) (S':=fun g=>w1.heap.size≤g∧g<(w2.setCell ⟨w.heap.size,5,none⟩ (.slice (some ⟨g2,0,none⟩) 3 c2)).heap.size) fun g s l=>⟨⟨s,by rw [SZ.out];exact l⟩,HK.out g s⟩)
 have N1:=hid (NN1.out.keep (HK.out g2 SG.out))
 have D1:=hid (DD1.out.keep (w':=w2.setCell ⟨w.heap.size,5,none⟩ (.slice (some ⟨g2,0,none⟩) 3 c2)) (S':=fun g=>w1.heap.size≤g∧g<(w2.setCell ⟨w.heap.size,5,none⟩ (.slice (some ⟨g2,0,none⟩) 3 c2)).heap.size) fun g s l=>⟨⟨s,by rw [SZ.out];exact l⟩,HK.out g s⟩)
 have N2:=hid (NN2.out.keep (HK.out g2 SG.out))
 have D2:=hid (DD2.out.keep (w':=w2.setCell ⟨w.heap.size,5,none⟩ (.slice (some ⟨g2,0,none⟩) 3 c2)) (S':=fun g=>w1.heap.size≤g∧g<(w2.setCell ⟨w.heap.size,5,none⟩ (.slice (some ⟨g2,0,none⟩) 3 c2)).heap.size) fun g s l=>⟨⟨s,by rw [SZ.out];exact l⟩,HK.out g s⟩)
 have GQ:=hid SG.out
 have G2L:=hid (World.block_lt_of_cell? _ _ N0.out.e0)
 clear X1 X2 A1 T1 HD1 B2 ND2 SZ HK TG SG NN0 DD0 NN1 DD1 NN2 DD2
 generalize World.setCell w2 _ _=w3 at *
 generalize fdE x=X at *
 generalize fdE y=Y at *
 generalize fdE z=Z at *
 have LO:=hid (show ∀ g,(w1.heap.size≤g∧g<w3.heap.size)→w.heap.size≤g from fun g s=>by have:=P1L.out;omega)
 have HP:=hid (show ∀ g,(w1.heap.size≤g∧g<w3.heap.size)→g≠p2 from fun g s=>by have:=P2L.out;omega)
 have BW:=hid (Below.refl w3.heap.size w3)
 obtain ⟨c0,c1,c2',c3,c4,c5,cf⟩:=Y3.out
 cases q0:ltB X with
 | true =>
  have K0:=hid (show ∀ W,Below w3.heap.size w3 W→Calls Tryd.prog 19 #[.agg #[.string X.op,.string X.name,.int .i64 (X.kind:Nat),.int .i64 X.n,.int .i64 (X.pl:Nat),.slice a0 m0 u0]] W fun e w'=>e=.returned (.bool true)∧Below W.heap.size W w' from fun W hW=>by have h:=isLit_any X (.slice a0 m0 u0) _ W (D0.out.any hW);rw [q0] at h;exact h)
  have E:=hid (show RT=(if X.n=1 then Y else Z) from E0.out.trans (stp_i1 q0))
  have KC:=hid (show ∀ W,Below w3.heap.size w3 W→Calls Tryd.prog 22 #[.agg #[.string ⟨#[105,102]⟩,.string nm,.int .i64 (kd:Nat),.int .i64 n,.int .i64 (pl:Nat),.slice (some ⟨g2,0,none⟩) 3 c2]] W fun e' w'=>∃ (ta:Option Addr) (tm tc:Nat),e'=.returned (.agg #[.string RT.op,.string RT.name,.int .i64 (RT.kind:Nat),.int .i64 RT.n,.int .i64 (RT.pl:Nat),.slice ta tm tc])∧Nd w' (fun g=>w1.heap.size≤g∧g<w3.heap.size) (.slice ta tm tc) RT.kids∧Below W.heap.size W w' from fun W hW=>by
   rw [E.out]
   refine (chos_any ⟨#[105,102]⟩ nm kd n pl X Y Z (.slice (some ⟨g2,0,none⟩) 3 c2) _ W (fun g s=>Nat.lt_of_lt_of_le s.2 hW.size) (HR.out.any hW)).mono ?_
   rintro e9 w9 ⟨v9,rfl,⟨s9,rfl,n9⟩,b9⟩
   obtain ⟨ta,tm,tc,rfl⟩:=n9.slice
   exact ⟨ta,tm,tc,rfl,n9,b9⟩)
  clear q0 E0
  obtain ⟨k0,k1,k2,k3,k4,k5⟩:=N0.out
  go_upto_region 27 with (go_at_call 19;with_reducible refine Calls.mono (K0.out _ BW.out) ?_;rintro e9 wn ⟨rfl,b9⟩;have BN:=hid (nextB BW.out b9);clear BW b9;have BW:=BN;clear BN;clear c0 c1 c2' c3 c4 c5 cf;obtain ⟨c0,c1,c2',c3,c4,c5,cf⟩:=Y3.out.next BW.out)
  clear k0 k1 k2 k3 k4 k5
  go_wp2_with (go_at_call 22;with_reducible refine Calls.mono (KC.out _ BW.out) ?_;rintro e9 wm ⟨ta,tm,tc,rfl,n9,b9⟩;have N9:=hid n9;have BM:=hid (nextB BW.out b9);clear n9 b9;obtain ⟨z0,z1,z2,z3,z4,z5,zf⟩:=R3.out.next BM.out)
  have S:=hid ((R3.out.next BM.out).sets (.string RT.op) (.string RT.name) (.int .i64 (RT.kind:Nat)) (.int .i64 RT.n) (.int .i64 (RT.pl:Nat)) (.slice ta tm tc))
  have BF:=hid (Below.put6X (nextB A3.out BM.out) (q:=p2) P3.out (.string RT.op) (.string RT.name) (.int .i64 (RT.kind:Nat)) (.int .i64 RT.n) (.int .i64 (RT.pl:Nat)) (.slice ta tm tc))
  have NF:=hid (N9.out.keep (S':=fun g=>w.heap.size≤g) fun g s l=>⟨LO.out g s,heap6 _ p2 (.string RT.op) (.string RT.name) (.int .i64 (RT.kind:Nat)) (.int .i64 RT.n) (.int .i64 (RT.pl:Nat)) (.slice ta tm tc) g (HP.out g s)⟩)
  clear c0 c1 c2' c3 c4 c5 cf
  clear z0 z1 z2 z3 z4 z5 zf
  generalize World.setCell _ ⟨p2,5,none⟩ _=wf at *
  obtain ⟨f0,f1,f2,f3,f4,f5,_⟩:=S.out
  try simp only [Exit.inBlock,Exit.then]
  refine bodyPost_ret (v:=.agg #[.string RT.op,.string RT.name,.int .i64 (RT.kind:Nat),.int .i64 RT.n,.int .i64 (RT.pl:Nat),.slice ta tm tc]) (by simp [results,Tryd.results10,go_sem,f0,f1,f2,f3,f4,f5]) rfl ?_
  exact ⟨_,rfl,⟨_,rfl,NF.out⟩,BF.out⟩
 | false =>
  have K0:=hid (show ∀ W,Below w3.heap.size w3 W→Calls Tryd.prog 19 #[.agg #[.string X.op,.string X.name,.int .i64 (X.kind:Nat),.int .i64 X.n,.int .i64 (X.pl:Nat),.slice a0 m0 u0]] W fun e w'=>e=.returned (.bool false)∧Below W.heap.size W w' from fun W hW=>by have h:=isLit_any X (.slice a0 m0 u0) _ W (D0.out.any hW);rw [q0] at h;exact h)
  have E:=hid (show RT=(.nd ⟨#[105,102]⟩ nm kd n pl [X,Y,Z]) from E0.out.trans (stp_i2 q0))
  clear q0 E0
  obtain ⟨k0,k1,k2,k3,k4,k5⟩:=N0.out
  go_upto_region 28 with (go_at_call 19;with_reducible refine Calls.mono (K0.out _ BW.out) ?_;rintro e9 wn ⟨rfl,b9⟩;have BN:=hid (nextB BW.out b9);clear BW b9;have BW:=BN;clear BN;clear c0 c1 c2' c3 c4 c5 cf;obtain ⟨c0,c1,c2',c3,c4,c5,cf⟩:=Y3.out.next BW.out;clear k0 k1 k2 k3 k4 k5;obtain ⟨k0,k1,k2,k3,k4,k5⟩:=N0.out.keep (BW.out.block g2 G2L.out))
  clear k0 k1 k2 k3 k4 k5
  have S:=hid ((R3.out.next BW.out).sets (.string ⟨#[105,102]⟩) (.string nm) (.int .i64 (kd:Nat)) (.int .i64 n) (.int .i64 (pl:Nat)) (.slice (some ⟨g2,0,none⟩) 3 c2))
  have BF:=hid (Below.put6X (nextB A3.out BW.out) (q:=p2) P3.out (.string ⟨#[105,102]⟩) (.string nm) (.int .i64 (kd:Nat)) (.int .i64 n) (.int .i64 (pl:Nat)) (.slice (some ⟨g2,0,none⟩) 3 c2))
  have NF:=hid ((HR.out.any BW.out).keep (S':=fun g=>w.heap.size≤g) fun g s l=>⟨LO.out g s,heap6 _ p2 (.string ⟨#[105,102]⟩) (.string nm) (.int .i64 (kd:Nat)) (.int .i64 n) (.int .i64 (pl:Nat)) (.slice (some ⟨g2,0,none⟩) 3 c2) g (HP.out g s)⟩)
  obtain ⟨z0,z1,z2,z3,z4,z5,zf⟩:=R3.out.next BW.out
  go_wp2_with fail
  clear c0 c1 c2' c3 c4 c5 cf
  clear z0 z1 z2 z3 z4 z5 zf
  generalize World.setCell _ ⟨p2,5,none⟩ _=wf at *
  obtain ⟨f0,f1,f2,f3,f4,f5,_⟩:=S.out
  try simp only [Exit.inBlock,Exit.then]
  refine bodyPost_ret (v:=.agg #[.string ⟨#[105,102]⟩,.string nm,.int .i64 (kd:Nat),.int .i64 n,.int .i64 (pl:Nat),.slice (some ⟨g2,0,none⟩) 3 c2]) (by simp [results,Tryd.results10,go_sem,f0,f1,f2,f3,f4,f5]) rfl ?_
  rw [E.out]
  exact ⟨_,rfl,⟨_,rfl,NF.out⟩,BF.out⟩
set_option maxRecDepth 100000 in
set_option maxHeartbeats 8000000 in
theorem ex_o0 (op:ByteArray) (ho:eqB op ⟨#[110,101,103]⟩=false∧eqB op ⟨#[110,111,116]⟩=false∧eqB op ⟨#[43]⟩=false∧eqB op ⟨#[45]⟩=false∧eqB op ⟨#[42]⟩=false∧eqB op ⟨#[47]⟩=false∧eqB op ⟨#[60]⟩=false∧eqB op ⟨#[60,61]⟩=false∧eqB op ⟨#[62]⟩=false∧eqB op ⟨#[62,61]⟩=false∧eqB op ⟨#[61,61]⟩=false∧eqB op ⟨#[33,61]⟩=false∧eqB op ⟨#[109,105,110]⟩=false∧eqB op ⟨#[109,97,120]⟩=false∧eqB op ⟨#[97,110,100]⟩=false∧eqB op ⟨#[111,114]⟩=false∧eqB op ⟨#[105,102]⟩=false) (nm:ByteArray) (kd:Nat) (n:Int) (pl:Nat) (hb:∀ k,k ∈ ([]:List Tr)→BdN (fdE k).n) (ih:∀ k,k ∈ ([]:List Tr)→ExC k):ExC (.nd op nm kd n pl []):=by
 obtain ⟨y0,y1,y2,y3,y4,y5,y6,y7,y8,y9,y10,y11,y12,y13,y14,y15,y16⟩:=ho
 have z0:(op.toList==[110,101,103])=false:=(eqL _ _).trans y0
 have z1:(op.toList==[110,111,116])=false:=(eqL _ _).trans y1
 have z2:(op.toList==[43])=false:=(eqL _ _).trans y2
 have z3:(op.toList==[45])=false:=(eqL _ _).trans y3
 have z4:(op.toList==[42])=false:=(eqL _ _).trans y4
 have z5:(op.toList==[47])=false:=(eqL _ _).trans y5
 have z6:(op.toList==[60])=false:=(eqL _ _).trans y6
 have z7:(op.toList==[60,61])=false:=(eqL _ _).trans y7
 have z8:(op.toList==[62])=false:=(eqL _ _).trans y8
 have z9:(op.toList==[62,61])=false:=(eqL _ _).trans y9
 have z10:(op.toList==[61,61])=false:=(eqL _ _).trans y10
 have z11:(op.toList==[33,61])=false:=(eqL _ _).trans y11
 have z12:(op.toList==[109,105,110])=false:=(eqL _ _).trans y12
 have z13:(op.toList==[109,97,120])=false:=(eqL _ _).trans y13
 have z14:(op.toList==[97,110,100])=false:=(eqL _ _).trans y14
 have z15:(op.toList==[111,114])=false:=(eqL _ _).trans y15
 have z16:(op.toList==[105,102])=false:=(eqL _ _).trans y16
 intro S w v hT hv
 obtain ⟨se,rfl,hd⟩:=hv
 obtain ⟨sa,sc,rfl⟩:=hd.len2
 replace hd:Nd w S (.slice sa 0 sc) []:=hd
 show Calls _ _ #[.agg #[.string op,.string nm,.int .i64 (kd:Nat),.int .i64 n,.int .i64 (pl:Nat),.slice sa 0 sc]] _ _
 have sz1:(w.alloc (.cells #[.string op,.string nm,.int .i64 (kd:Nat),.int .i64 n,.int .i64 (pl:Nat),.slice sa 0 sc] 28)).heap.size=w.heap.size+1:=by simp
 have A1:=hid (show Below w.heap.size w ((w.alloc (.cells #[.string op,.string nm,.int .i64 (kd:Nat),.int .i64 n,.int .i64 (pl:Nat),.slice sa 0 sc] 28)).alloc (.cells #[.string ⟨#[]⟩,.string ⟨#[]⟩,.int .i64 0,.int .i64 0,.int .i64 0,.slice none 0 0] 28)) from ((Below.refl _ _).alloc (Nat.le_refl _) _).alloc (by simp) _)
 have X1:=hid (show B6 ((w.alloc (.cells #[.string op,.string nm,.int .i64 (kd:Nat),.int .i64 n,.int .i64 (pl:Nat),.slice sa 0 sc] 28)).alloc (.cells #[.string ⟨#[]⟩,.string ⟨#[]⟩,.int .i64 0,.int .i64 0,.int .i64 0,.slice none 0 0] 28)) w.heap.size (.string op) (.string nm) (.int .i64 (kd:Nat)) (.int .i64 n) (.int .i64 (pl:Nat)) (.slice sa 0 sc) from by
  have h:=(B6.new w 28 (.string op) (.string nm) (.int .i64 (kd:Nat)) (.int .i64 n) (.int .i64 (pl:Nat)) (.slice sa 0 sc)).next ((Below.refl _ _).alloc (Nat.le_refl _) (.cells #[.string ⟨#[]⟩,.string ⟨#[]⟩,.int .i64 0,.int .i64 0,.int .i64 0,.slice none 0 0] 28))
  exact h)
 have X2:=hid (show B6 ((w.alloc (.cells #[.string op,.string nm,.int .i64 (kd:Nat),.int .i64 n,.int .i64 (pl:Nat),.slice sa 0 sc] 28)).alloc (.cells #[.string ⟨#[]⟩,.string ⟨#[]⟩,.int .i64 0,.int .i64 0,.int .i64 0,.slice none 0 0] 28)) (w.heap.size+1) (.string ⟨#[]⟩) (.string ⟨#[]⟩) (.int .i64 0) (.int .i64 0) (.int .i64 0) (.slice none 0 0) from by
  have h:=B6.new (w.alloc (.cells #[.string op,.string nm,.int .i64 (kd:Nat),.int .i64 n,.int .i64 (pl:Nat),.slice sa 0 sc] 28)) 28 (.string ⟨#[]⟩) (.string ⟨#[]⟩) (.int .i64 0) (.int .i64 0) (.int .i64 0) (.slice none 0 0)
  rw [sz1] at h
  exact h)
 clear sz1
 have HD1:=hid (hd.any A1.out)
 have T1:=hid (hT.next A1.out)
 have KE:=hid (show ∀ W,TabU W→Nd W S (.slice sa 0 sc) []→Calls Tryd.prog 16 #[.slice sa 0 sc,.func (.func 10) #[] #[]] W fun e w'=>∃ v',e=.returned v'∧Nd w' (fun g=>W.heap.size≤g) v' []∧Below W.heap.size W w' from fun W hT hW=>each_fold_Expr fdE [] S W (.slice sa 0 sc) hW (by simp) hT (fun k hk w1 v1 hT1 hv1=>ih k hk S w1 v1 hT1 hv1))
 have E0:=hid (show fdE (.nd op nm kd n pl [])=stpE (.nd op nm kd n pl []) from by rw [fdE];rw [fdL])
 generalize fdE (.nd op nm kd n pl [])=RT at *
 have TG:=hid (show 0<w.heap.size from hT.1)
 clear hd hT hb ih
 go_enter Tryd.func10,Tryd.ntmps10
 go_upto_region 1 with fail
 generalize World.alloc (World.alloc w _) _=w1 at *
 have P3:=hid (show w.heap.size≤w.heap.size+1 by omega)
 have PX:=hid (show w.heap.size≠w.heap.size+1 by omega)
 have P2L:=hid X2.out.lt
 have P1L:=hid X1.out.lt
 generalize w.heap.size+1=p2 at *
 obtain ⟨c0,c1,c2',c3,c4,c5,cf⟩:=X1.out
 go_upto_region 2 with (go_at_call 16;with_reducible refine Calls.mono (KE.out _ T1.out HD1.out) ?_;rintro e9 w2 ⟨v2,rfl,nq,b2⟩;have B2:=hid b2;have ND2:=hid nq;have ev:=Nd.k0 nq;subst ev;skip;clear nq b2 c0 c1 c2' c3 c4 c5 cf;obtain ⟨c0,c1,c2',c3,c4,c5,cf⟩:=X1.out.next B2.out)
 clear c0 c1 c2' c3 c4 c5 cf KE
 have HK:=hid (show ∀ g,w1.heap.size≤g→(w2.setCell ⟨w.heap.size,5,none⟩ (.slice none 0 0)).heap[g]?=w2.heap[g]? from fun g hg=>Below.heap_setCell w2 ⟨w.heap.size,5,none⟩ (.slice none 0 0) g (by have:=P1L.out;show g≠w.heap.size;omega))
 have Y3:=hid ((X1.out.next B2.out).set5 (.slice none 0 0))
 have R3:=hid ((X2.out.next B2.out).put (q:=w.heap.size) (i:=5) (by have:=PX.out;omega) (.slice none 0 0))
 have A3:=hid ((nextB A1.out B2.out).setCell (p:=⟨w.heap.size,5,none⟩) (Nat.le_refl _) (.slice none 0 0))
 have T3:=hid ((T1.out.next B2.out).keep (w':=w2.setCell ⟨w.heap.size,5,none⟩ (.slice none 0 0)) (by simp) (Below.heap_setCell w2 ⟨w.heap.size,5,none⟩ (.slice none 0 0) 0 (by have:=TG.out;show 0≠w.heap.size;omega)))
 have SZ:=hid (show (w2.setCell ⟨w.heap.size,5,none⟩ (.slice none 0 0)).heap.size=w2.heap.size from by simp)
 have HR:=hid (ND2.out.keep (w':=w2.setCell ⟨w.heap.size,5,none⟩ (.slice none 0 0)) (S':=fun g=>w1.heap.size≤g∧g<(w2.setCell ⟨w.heap.size,5,none⟩ (.slice none 0 0)).heap.size) fun g s l=>⟨⟨s,by rw [SZ.out];exact l⟩,HK.out g s⟩)
 clear X1 X2 A1 T1 HD1 B2 ND2 SZ HK TG
 generalize World.setCell w2 _ _=w3 at *
 have LO:=hid (show ∀ g,(w1.heap.size≤g∧g<w3.heap.size)→w.heap.size≤g from fun g s=>by have:=P1L.out;omega)
 have HP:=hid (show ∀ g,(w1.heap.size≤g∧g<w3.heap.size)→g≠p2 from fun g s=>by have:=P2L.out;omega)
 have BW:=hid (Below.refl w3.heap.size w3)
 obtain ⟨c0,c1,c2',c3,c4,c5,cf⟩:=Y3.out
 have E:=hid (show RT=(.nd op nm kd n pl []) from E0.out.trans (rfl))
 go_upto_region 28 with fail
 have S:=hid ((R3.out.next BW.out).sets (.string op) (.string nm) (.int .i64 (kd:Nat)) (.int .i64 n) (.int .i64 (pl:Nat)) (.slice none 0 0))
 have BF:=hid (Below.put6X (nextB A3.out BW.out) (q:=p2) P3.out (.string op) (.string nm) (.int .i64 (kd:Nat)) (.int .i64 n) (.int .i64 (pl:Nat)) (.slice none 0 0))
 have NF:=hid ((HR.out.any BW.out).keep (S':=fun g=>w.heap.size≤g) fun g s l=>⟨LO.out g s,heap6 _ p2 (.string op) (.string nm) (.int .i64 (kd:Nat)) (.int .i64 n) (.int .i64 (pl:Nat)) (.slice none 0 0) g (HP.out g s)⟩)
 obtain ⟨z0,z1,z2,z3,z4,z5,zf⟩:=R3.out.next BW.out
 go_wp2_with fail
 clear c0 c1 c2' c3 c4 c5 cf
 clear z0 z1 z2 z3 z4 z5 zf
 generalize World.setCell _ ⟨p2,5,none⟩ _=wf at *
 obtain ⟨f0,f1,f2,f3,f4,f5,_⟩:=S.out
 try simp only [Exit.inBlock,Exit.then]
 refine bodyPost_ret (v:=.agg #[.string op,.string nm,.int .i64 (kd:Nat),.int .i64 n,.int .i64 (pl:Nat),.slice none 0 0]) (by simp [results,Tryd.results10,go_sem,f0,f1,f2,f3,f4,f5]) rfl ?_
 rw [E.out]
 exact ⟨_,rfl,⟨_,rfl,NF.out⟩,BF.out⟩
set_option maxRecDepth 100000 in
set_option maxHeartbeats 8000000 in
theorem ex_o1 (op:ByteArray) (ho:eqB op ⟨#[110,101,103]⟩=false∧eqB op ⟨#[110,111,116]⟩=false∧eqB op ⟨#[43]⟩=false∧eqB op ⟨#[45]⟩=false∧eqB op ⟨#[42]⟩=false∧eqB op ⟨#[47]⟩=false∧eqB op ⟨#[60]⟩=false∧eqB op ⟨#[60,61]⟩=false∧eqB op ⟨#[62]⟩=false∧eqB op ⟨#[62,61]⟩=false∧eqB op ⟨#[61,61]⟩=false∧eqB op ⟨#[33,61]⟩=false∧eqB op ⟨#[109,105,110]⟩=false∧eqB op ⟨#[109,97,120]⟩=false∧eqB op ⟨#[97,110,100]⟩=false∧eqB op ⟨#[111,114]⟩=false∧eqB op ⟨#[105,102]⟩=false) (nm:ByteArray) (kd:Nat) (n:Int) (pl:Nat) (x:Tr) (hb:∀ k,k ∈ ([x]:List Tr)→BdN (fdE k).n) (ih:∀ k,k ∈ ([x]:List Tr)→ExC k):ExC (.nd op nm kd n pl [x]):=by
 obtain ⟨y0,y1,y2,y3,y4,y5,y6,y7,y8,y9,y10,y11,y12,y13,y14,y15,y16⟩:=ho
 have z0:(op.toList==[110,101,103])=false:=(eqL _ _).trans y0
 have z1:(op.toList==[110,111,116])=false:=(eqL _ _).trans y1
 have z2:(op.toList==[43])=false:=(eqL _ _).trans y2
 have z3:(op.toList==[45])=false:=(eqL _ _).trans y3
 have z4:(op.toList==[42])=false:=(eqL _ _).trans y4
 have z5:(op.toList==[47])=false:=(eqL _ _).trans y5
 have z6:(op.toList==[60])=false:=(eqL _ _).trans y6
 have z7:(op.toList==[60,61])=false:=(eqL _ _).trans y7
 have z8:(op.toList==[62])=false:=(eqL _ _).trans y8
 have z9:(op.toList==[62,61])=false:=(eqL _ _).trans y9
 have z10:(op.toList==[61,61])=false:=(eqL _ _).trans y10
 have z11:(op.toList==[33,61])=false:=(eqL _ _).trans y11
 have z12:(op.toList==[109,105,110])=false:=(eqL _ _).trans y12
 have z13:(op.toList==[109,97,120])=false:=(eqL _ _).trans y13
 have z14:(op.toList==[97,110,100])=false:=(eqL _ _).trans y14
 have z15:(op.toList==[111,114])=false:=(eqL _ _).trans y15
 have z16:(op.toList==[105,102])=false:=(eqL _ _).trans y16
 intro S w v hT hv
 obtain ⟨se,rfl,hd⟩:=hv
 obtain ⟨sa,sc,rfl⟩:=hd.len2
 replace hd:Nd w S (.slice sa 1 sc) [x]:=hd
 show Calls _ _ #[.agg #[.string op,.string nm,.int .i64 (kd:Nat),.int .i64 n,.int .i64 (pl:Nat),.slice sa 1 sc]] _ _
 have sz1:(w.alloc (.cells #[.string op,.string nm,.int .i64 (kd:Nat),.int .i64 n,.int .i64 (pl:Nat),.slice sa 1 sc] 28)).heap.size=w.heap.size+1:=by simp
 have A1:=hid (show Below w.heap.size w ((w.alloc (.cells #[.string op,.string nm,.int .i64 (kd:Nat),.int .i64 n,.int .i64 (pl:Nat),.slice sa 1 sc] 28)).alloc (.cells #[.string ⟨#[]⟩,.string ⟨#[]⟩,.int .i64 0,.int .i64 0,.int .i64 0,.slice none 0 0] 28)) from ((Below.refl _ _).alloc (Nat.le_refl _) _).alloc (by simp) _)
 have X1:=hid (show B6 ((w.alloc (.cells #[.string op,.string nm,.int .i64 (kd:Nat),.int .i64 n,.int .i64 (pl:Nat),.slice sa 1 sc] 28)).alloc (.cells #[.string ⟨#[]⟩,.string ⟨#[]⟩,.int .i64 0,.int .i64 0,.int .i64 0,.slice none 0 0] 28)) w.heap.size (.string op) (.string nm) (.int .i64 (kd:Nat)) (.int .i64 n) (.int .i64 (pl:Nat)) (.slice sa 1 sc) from by
  have h:=(B6.new w 28 (.string op) (.string nm) (.int .i64 (kd:Nat)) (.int .i64 n) (.int .i64 (pl:Nat)) (.slice sa 1 sc)).next ((Below.refl _ _).alloc (Nat.le_refl _) (.cells #[.string ⟨#[]⟩,.string ⟨#[]⟩,.int .i64 0,.int .i64 0,.int .i64 0,.slice none 0 0] 28))
  exact h)
 have X2:=hid (show B6 ((w.alloc (.cells #[.string op,.string nm,.int .i64 (kd:Nat),.int .i64 n,.int .i64 (pl:Nat),.slice sa 1 sc] 28)).alloc (.cells #[.string ⟨#[]⟩,.string ⟨#[]⟩,.int .i64 0,.int .i64 0,.int .i64 0,.slice none 0 0] 28)) (w.heap.size+1) (.string ⟨#[]⟩) (.string ⟨#[]⟩) (.int .i64 0) (.int .i64 0) (.int .i64 0) (.slice none 0 0) from by
  have h:=B6.new (w.alloc (.cells #[.string op,.string nm,.int .i64 (kd:Nat),.int .i64 n,.int .i64 (pl:Nat),.slice sa 1 sc] 28)) 28 (.string ⟨#[]⟩) (.string ⟨#[]⟩) (.int .i64 0) (.int .i64 0) (.int .i64 0) (.slice none 0 0)
  rw [sz1] at h
  exact h)
 clear sz1
 have HD1:=hid (hd.any A1.out)
 have T1:=hid (hT.next A1.out)
 have KE:=hid (show ∀ W,TabU W→Nd W S (.slice sa 1 sc) [x]→Calls Tryd.prog 16 #[.slice sa 1 sc,.func (.func 10) #[] #[]] W fun e w'=>∃ v',e=.returned v'∧Nd w' (fun g=>W.heap.size≤g) v' [fdE x]∧Below W.heap.size W w' from fun W hT hW=>each_fold_Expr fdE [x] S W (.slice sa 1 sc) hW (by simp) hT (fun k hk w1 v1 hT1 hv1=>ih k hk S w1 v1 hT1 hv1))
 have M0:=hid (hb x (by simp))
 have E0:=hid (show fdE (.nd op nm kd n pl [x])=stpE (.nd op nm kd n pl [fdE x]) from by rw [fdE];rw [fdL,fdL])
 generalize fdE (.nd op nm kd n pl [x])=RT at *
 have TG:=hid (show 0<w.heap.size from hT.1)
 clear hd hT hb ih
 go_enter Tryd.func10,Tryd.ntmps10
 go_upto_region 1 with fail
 generalize World.alloc (World.alloc w _) _=w1 at *
 have P3:=hid (show w.heap.size≤w.heap.size+1 by omega)
 have PX:=hid (show w.heap.size≠w.heap.size+1 by omega)
 have P2L:=hid X2.out.lt
 have P1L:=hid X1.out.lt
 generalize w.heap.size+1=p2 at *
 obtain ⟨c0,c1,c2',c3,c4,c5,cf⟩:=X1.out
 go_upto_region 2 with (go_at_call 16;with_reducible refine Calls.mono (KE.out _ T1.out HD1.out) ?_;rintro e9 w2 ⟨v2,rfl,nq,b2⟩;have B2:=hid b2;have ND2:=hid nq;obtain ⟨g2,c2,a0,m0,u0,rfl,sg,n0,d0⟩:=Nd.k1 nq;have SG:=hid sg;have NN0:=hid n0;have DD0:=hid d0;clear n0 d0;clear sg;clear nq b2 c0 c1 c2' c3 c4 c5 cf;obtain ⟨c0,c1,c2',c3,c4,c5,cf⟩:=X1.out.next B2.out)
 clear c0 c1 c2' c3 c4 c5 cf KE
 have HK:=hid (show ∀ g,w1.heap.size≤g→(w2.setCell ⟨w.heap.size,5,none⟩ (.slice (some ⟨g2,0,none⟩) 1 c2)).heap[g]?=w2.heap[g]? from fun g hg=>Below.heap_setCell w2 ⟨w.heap.size,5,none⟩ (.slice (some ⟨g2,0,none⟩) 1 c2) g (by have:=P1L.out;show g≠w.heap.size;omega))
 have Y3:=hid ((X1.out.next B2.out).set5 (.slice (some ⟨g2,0,none⟩) 1 c2))
 have R3:=hid ((X2.out.next B2.out).put (q:=w.heap.size) (i:=5) (by have:=PX.out;omega) (.slice (some ⟨g2,0,none⟩) 1 c2))
 have A3:=hid ((nextB A1.out B2.out).setCell (p:=⟨w.heap.size,5,none⟩) (Nat.le_refl _) (.slice (some ⟨g2,0,none⟩) 1 c2))
 have T3:=hid ((T1.out.next B2.out).keep (w':=w2.setCell ⟨w.heap.size,5,none⟩ (.slice (some ⟨g2,0,none⟩) 1 c2)) (by simp) (Below.heap_setCell w2 ⟨w.heap.size,5,none⟩ (.slice (some ⟨g2,0,none⟩) 1 c2) 0 (by have:=TG.out;show 0≠w.heap.size;omega)))
 have SZ:=hid (show (w2.setCell ⟨w.heap.size,5,none⟩ (.slice (some ⟨g2,0,none⟩) 1 c2)).heap.size=w2.heap.size from by simp)
 have HR:=hid (ND2.out.keep (w':=w2.setCell ⟨w.heap.size,5,none⟩ (.slice (some ⟨g2,0,none⟩) 1 c2)) (S':=fun g=>w1.heap.size≤g∧g<(w2.setCell ⟨w.heap.size,5,none⟩ (.slice (some ⟨g2,0,none⟩) 1 c2)).heap.size) fun g s l=>⟨⟨s,by rw [SZ.out];exact l⟩,HK.out g s⟩)
 have N0:=hid (NN0.out.keep (HK.out g2 SG.out))
 have D0:=hid (DD0.out.keep (w':=w2.setCell ⟨w.heap.size,5,none⟩ (.slice (some ⟨g2,0,none⟩) 1 c2)) (S':=fun g=>w1.heap.size≤g∧g<(w2.setCell ⟨w.heap.size,5,none⟩ (.slice (some ⟨g2,0,none⟩) 1 c2)).heap.size) fun g s l=>⟨⟨s,by rw [SZ.out];exact l⟩,HK.out g s⟩)
 have GQ:=hid SG.out
 have G2L:=hid (World.block_lt_of_cell? _ _ N0.out.e0)
 clear X1 X2 A1 T1 HD1 B2 ND2 SZ HK TG SG NN0 DD0
 generalize World.setCell w2 _ _=w3 at *
 generalize fdE x=X at *
 have LO:=hid (show ∀ g,(w1.heap.size≤g∧g<w3.heap.size)→w.heap.size≤g from fun g s=>by have:=P1L.out;omega)
 have HP:=hid (show ∀ g,(w1.heap.size≤g∧g<w3.heap.size)→g≠p2 from fun g s=>by have:=P2L.out;omega)
 have BW:=hid (Below.refl w3.heap.size w3)
 obtain ⟨c0,c1,c2',c3,c4,c5,cf⟩:=Y3.out
 have E:=hid (show RT=(.nd op nm kd n pl [X]) from E0.out.trans (by show (if (un2 op && ltB X)=true then _ else _)=_;rw [if_neg (by unfold un2;rw [y0,y1];simp)]))
 go_upto_region 28 with fail
 have S:=hid ((R3.out.next BW.out).sets (.string op) (.string nm) (.int .i64 (kd:Nat)) (.int .i64 n) (.int .i64 (pl:Nat)) (.slice (some ⟨g2,0,none⟩) 1 c2))
 have BF:=hid (Below.put6X (nextB A3.out BW.out) (q:=p2) P3.out (.string op) (.string nm) (.int .i64 (kd:Nat)) (.int .i64 n) (.int .i64 (pl:Nat)) (.slice (some ⟨g2,0,none⟩) 1 c2))
 have NF:=hid ((HR.out.any BW.out).keep (S':=fun g=>w.heap.size≤g) fun g s l=>⟨LO.out g s,heap6 _ p2 (.string op) (.string nm) (.int .i64 (kd:Nat)) (.int .i64 n) (.int .i64 (pl:Nat)) (.slice (some ⟨g2,0,none⟩) 1 c2) g (HP.out g s)⟩)
 obtain ⟨z0,z1,z2,z3,z4,z5,zf⟩:=R3.out.next BW.out
 go_wp2_with fail
 clear c0 c1 c2' c3 c4 c5 cf
 clear z0 z1 z2 z3 z4 z5 zf
 generalize World.setCell _ ⟨p2,5,none⟩ _=wf at *
 obtain ⟨f0,f1,f2,f3,f4,f5,_⟩:=S.out
 try simp only [Exit.inBlock,Exit.then]
 refine bodyPost_ret (v:=.agg #[.string op,.string nm,.int .i64 (kd:Nat),.int .i64 n,.int .i64 (pl:Nat),.slice (some ⟨g2,0,none⟩) 1 c2]) (by simp [results,Tryd.results10,go_sem,f0,f1,f2,f3,f4,f5]) rfl ?_
 rw [E.out]
 exact ⟨_,rfl,⟨_,rfl,NF.out⟩,BF.out⟩
set_option maxRecDepth 100000 in
set_option maxHeartbeats 8000000 in
theorem ex_o2 (op:ByteArray) (ho:eqB op ⟨#[110,101,103]⟩=false∧eqB op ⟨#[110,111,116]⟩=false∧eqB op ⟨#[43]⟩=false∧eqB op ⟨#[45]⟩=false∧eqB op ⟨#[42]⟩=false∧eqB op ⟨#[47]⟩=false∧eqB op ⟨#[60]⟩=false∧eqB op ⟨#[60,61]⟩=false∧eqB op ⟨#[62]⟩=false∧eqB op ⟨#[62,61]⟩=false∧eqB op ⟨#[61,61]⟩=false∧eqB op ⟨#[33,61]⟩=false∧eqB op ⟨#[109,105,110]⟩=false∧eqB op ⟨#[109,97,120]⟩=false∧eqB op ⟨#[97,110,100]⟩=false∧eqB op ⟨#[111,114]⟩=false∧eqB op ⟨#[105,102]⟩=false) (nm:ByteArray) (kd:Nat) (n:Int) (pl:Nat) (x y:Tr) (hb:∀ k,k ∈ ([x,y]:List Tr)→BdN (fdE k).n) (ih:∀ k,k ∈ ([x,y]:List Tr)→ExC k):ExC (.nd op nm kd n pl [x,y]):=by
 obtain ⟨y0,y1,y2,y3,y4,y5,y6,y7,y8,y9,y10,y11,y12,y13,y14,y15,y16⟩:=ho
 have z0:(op.toList==[110,101,103])=false:=(eqL _ _).trans y0
 have z1:(op.toList==[110,111,116])=false:=(eqL _ _).trans y1
 have z2:(op.toList==[43])=false:=(eqL _ _).trans y2
 have z3:(op.toList==[45])=false:=(eqL _ _).trans y3
 have z4:(op.toList==[42])=false:=(eqL _ _).trans y4
 have z5:(op.toList==[47])=false:=(eqL _ _).trans y5
 have z6:(op.toList==[60])=false:=(eqL _ _).trans y6
 have z7:(op.toList==[60,61])=false:=(eqL _ _).trans y7
 have z8:(op.toList==[62])=false:=(eqL _ _).trans y8
 have z9:(op.toList==[62,61])=false:=(eqL _ _).trans y9
 have z10:(op.toList==[61,61])=false:=(eqL _ _).trans y10
 have z11:(op.toList==[33,61])=false:=(eqL _ _).trans y11
 have z12:(op.toList==[109,105,110])=false:=(eqL _ _).trans y12
 have z13:(op.toList==[109,97,120])=false:=(eqL _ _).trans y13
 have z14:(op.toList==[97,110,100])=false:=(eqL _ _).trans y14
 have z15:(op.toList==[111,114])=false:=(eqL _ _).trans y15
 have z16:(op.toList==[105,102])=false:=(eqL _ _).trans y16
 intro S w v hT hv
 obtain ⟨se,rfl,hd⟩:=hv
 obtain ⟨sa,sc,rfl⟩:=hd.len2
 replace hd:Nd w S (.slice sa 2 sc) [x,y]:=hd
 show Calls _ _ #[.agg #[.string op,.string nm,.int .i64 (kd:Nat),.int .i64 n,.int .i64 (pl:Nat),.slice sa 2 sc]] _ _
 have sz1:(w.alloc (.cells #[.string op,.string nm,.int .i64 (kd:Nat),.int .i64 n,.int .i64 (pl:Nat),.slice sa 2 sc] 28)).heap.size=w.heap.size+1:=by simp
 have A1:=hid (show Below w.heap.size w ((w.alloc (.cells #[.string op,.string nm,.int .i64 (kd:Nat),.int .i64 n,.int .i64 (pl:Nat),.slice sa 2 sc] 28)).alloc (.cells #[.string ⟨#[]⟩,.string ⟨#[]⟩,.int .i64 0,.int .i64 0,.int .i64 0,.slice none 0 0] 28)) from ((Below.refl _ _).alloc (Nat.le_refl _) _).alloc (by simp) _)
 have X1:=hid (show B6 ((w.alloc (.cells #[.string op,.string nm,.int .i64 (kd:Nat),.int .i64 n,.int .i64 (pl:Nat),.slice sa 2 sc] 28)).alloc (.cells #[.string ⟨#[]⟩,.string ⟨#[]⟩,.int .i64 0,.int .i64 0,.int .i64 0,.slice none 0 0] 28)) w.heap.size (.string op) (.string nm) (.int .i64 (kd:Nat)) (.int .i64 n) (.int .i64 (pl:Nat)) (.slice sa 2 sc) from by
  have h:=(B6.new w 28 (.string op) (.string nm) (.int .i64 (kd:Nat)) (.int .i64 n) (.int .i64 (pl:Nat)) (.slice sa 2 sc)).next ((Below.refl _ _).alloc (Nat.le_refl _) (.cells #[.string ⟨#[]⟩,.string ⟨#[]⟩,.int .i64 0,.int .i64 0,.int .i64 0,.slice none 0 0] 28))
  exact h)
 have X2:=hid (show B6 ((w.alloc (.cells #[.string op,.string nm,.int .i64 (kd:Nat),.int .i64 n,.int .i64 (pl:Nat),.slice sa 2 sc] 28)).alloc (.cells #[.string ⟨#[]⟩,.string ⟨#[]⟩,.int .i64 0,.int .i64 0,.int .i64 0,.slice none 0 0] 28)) (w.heap.size+1) (.string ⟨#[]⟩) (.string ⟨#[]⟩) (.int .i64 0) (.int .i64 0) (.int .i64 0) (.slice none 0 0) from by
  have h:=B6.new (w.alloc (.cells #[.string op,.string nm,.int .i64 (kd:Nat),.int .i64 n,.int .i64 (pl:Nat),.slice sa 2 sc] 28)) 28 (.string ⟨#[]⟩) (.string ⟨#[]⟩) (.int .i64 0) (.int .i64 0) (.int .i64 0) (.slice none 0 0)
  rw [sz1] at h
  exact h)
 clear sz1
 have HD1:=hid (hd.any A1.out)
 have T1:=hid (hT.next A1.out)
 have KE:=hid (show ∀ W,TabU W→Nd W S (.slice sa 2 sc) [x,y]→Calls Tryd.prog 16 #[.slice sa 2 sc,.func (.func 10) #[] #[]] W fun e w'=>∃ v',e=.returned v'∧Nd w' (fun g=>W.heap.size≤g) v' [fdE x,fdE y]∧Below W.heap.size W w' from fun W hT hW=>each_fold_Expr fdE [x,y] S W (.slice sa 2 sc) hW (by simp) hT (fun k hk w1 v1 hT1 hv1=>ih k hk S w1 v1 hT1 hv1))
 have M0:=hid (hb x (by simp))
 have M1:=hid (hb y (by simp))
 have E0:=hid (show fdE (.nd op nm kd n pl [x,y])=stpE (.nd op nm kd n pl [fdE x,fdE y]) from by rw [fdE];rw [fdL,fdL,fdL])
 generalize fdE (.nd op nm kd n pl [x,y])=RT at *
 have TG:=hid (show 0<w.heap.size from hT.1)
 clear hd hT hb ih
 go_enter Tryd.func10,Tryd.ntmps10
 go_upto_region 1 with fail
 generalize World.alloc (World.alloc w _) _=w1 at *
 have P3:=hid (show w.heap.size≤w.heap.size+1 by omega)
 have PX:=hid (show w.heap.size≠w.heap.size+1 by omega)
 have P2L:=hid X2.out.lt
 have P1L:=hid X1.out.lt
 generalize w.heap.size+1=p2 at *
 obtain ⟨c0,c1,c2',c3,c4,c5,cf⟩:=X1.out
 go_upto_region 2 with (go_at_call 16;with_reducible refine Calls.mono (KE.out _ T1.out HD1.out) ?_;rintro e9 w2 ⟨v2,rfl,nq,b2⟩;have B2:=hid b2;have ND2:=hid nq;obtain ⟨g2,c2,a0,m0,u0,a1,m1,u1,rfl,sg,n0,n1,d0,d1⟩:=Nd.k2 nq;have SG:=hid sg;have NN0:=hid n0;have DD0:=hid d0;clear n0 d0;have NN1:=hid n1;have DD1:=hid d1;clear n1 d1;clear sg;clear nq b2 c0 c1 c2' c3 c4 c5 cf;obtain ⟨c0,c1,c2',c3,c4,c5,cf⟩:=X1.out.next B2.out)
 clear c0 c1 c2' c3 c4 c5 cf KE
 have HK:=hid (show ∀ g,w1.heap.size≤g→(w2.setCell ⟨w.heap.size,5,none⟩ (.slice (some ⟨g2,0,none⟩) 2 c2)).heap[g]?=w2.heap[g]? from fun g hg=>Below.heap_setCell w2 ⟨w.heap.size,5,none⟩ (.slice (some ⟨g2,0,none⟩) 2 c2) g (by have:=P1L.out;show g≠w.heap.size;omega))
 have Y3:=hid ((X1.out.next B2.out).set5 (.slice (some ⟨g2,0,none⟩) 2 c2))
 have R3:=hid ((X2.out.next B2.out).put (q:=w.heap.size) (i:=5) (by have:=PX.out;omega) (.slice (some ⟨g2,0,none⟩) 2 c2))
 have A3:=hid ((nextB A1.out B2.out).setCell (p:=⟨w.heap.size,5,none⟩) (Nat.le_refl _) (.slice (some ⟨g2,0,none⟩) 2 c2))
 have T3:=hid ((T1.out.next B2.out).keep (w':=w2.setCell ⟨w.heap.size,5,none⟩ (.slice (some ⟨g2,0,none⟩) 2 c2)) (by simp) (Below.heap_setCell w2 ⟨w.heap.size,5,none⟩ (.slice (some ⟨g2,0,none⟩) 2 c2) 0 (by have:=TG.out;show 0≠w.heap.size;omega)))
 have SZ:=hid (show (w2.setCell ⟨w.heap.size,5,none⟩ (.slice (some ⟨g2,0,none⟩) 2 c2)).heap.size=w2.heap.size from by simp)
 have HR:=hid (ND2.out.keep (w':=w2.setCell ⟨w.heap.size,5,none⟩ (.slice (some ⟨g2,0,none⟩) 2 c2)) (S':=fun g=>w1.heap.size≤g∧g<(w2.setCell ⟨w.heap.size,5,none⟩ (.slice (some ⟨g2,0,none⟩) 2 c2)).heap.size) fun g s l=>⟨⟨s,by rw [SZ.out];exact l⟩,HK.out g s⟩)
 have N0:=hid (NN0.out.keep (HK.out g2 SG.out))
 have D0:=hid (DD0.out.keep (w':=w2.setCell ⟨w.heap.size,5,none⟩ (.slice (some ⟨g2,0,none⟩) 2 c2)) (S':=fun g=>w1.heap.size≤g∧g<(w2.setCell ⟨w.heap.size,5,none⟩ (.slice (some ⟨g2,0,none⟩) 2 c2)).heap.size) fun g s l=>⟨⟨s,by rw [SZ.out];exact l⟩,HK.out g s⟩)
 have N1:=hid (NN1.out.keep (HK.out g2 SG.out))
 have D1:=hid (DD1.out.keep (w':=w2.setCell ⟨w.heap.size,5,none⟩ (.slice (some ⟨g2,0,none⟩) 2 c2)) (S':=fun g=>w1.heap.size≤g∧g<(w2.setCell ⟨w.heap.size,5,none⟩ (.slice (some ⟨g2,0,none⟩) 2 c2)).heap.size) fun g s l=>⟨⟨s,by rw [SZ.out];exact l⟩,HK.out g s⟩)
 have GQ:=hid SG.out
 have G2L:=hid (World.block_lt_of_cell? _ _ N0.out.e0)
 clear X1 X2 A1 T1 HD1 B2 ND2 SZ HK TG SG NN0 DD0 NN1 DD1
 generalize World.setCell w2 _ _=w3 at *
 generalize fdE x=X at *
 generalize fdE y=Y at *
 have LO:=hid (show ∀ g,(w1.heap.size≤g∧g<w3.heap.size)→w.heap.size≤g from fun g s=>by have:=P1L.out;omega)
 have HP:=hid (show ∀ g,(w1.heap.size≤g∧g<w3.heap.size)→g≠p2 from fun g s=>by have:=P2L.out;omega)
 have BW:=hid (Below.refl w3.heap.size w3)
 obtain ⟨c0,c1,c2',c3,c4,c5,cf⟩:=Y3.out
 have E:=hid (show RT=(.nd op nm kd n pl [X,Y]) from E0.out.trans (by show (if bin12 op=true then _ else if (con2 op && ltB X)=true then _ else _)=_;rw [if_neg (by unfold bin12;rw [y2,y3,y4,y5,y6,y7,y8,y9,y10,y11,y12,y13];simp),if_neg (by unfold con2;rw [y14,y15];simp)]))
 go_upto_region 28 with fail
 have S:=hid ((R3.out.next BW.out).sets (.string op) (.string nm) (.int .i64 (kd:Nat)) (.int .i64 n) (.int .i64 (pl:Nat)) (.slice (some ⟨g2,0,none⟩) 2 c2))
 have BF:=hid (Below.put6X (nextB A3.out BW.out) (q:=p2) P3.out (.string op) (.string nm) (.int .i64 (kd:Nat)) (.int .i64 n) (.int .i64 (pl:Nat)) (.slice (some ⟨g2,0,none⟩) 2 c2))
 have NF:=hid ((HR.out.any BW.out).keep (S':=fun g=>w.heap.size≤g) fun g s l=>⟨LO.out g s,heap6 _ p2 (.string op) (.string nm) (.int .i64 (kd:Nat)) (.int .i64 n) (.int .i64 (pl:Nat)) (.slice (some ⟨g2,0,none⟩) 2 c2) g (HP.out g s)⟩)
 obtain ⟨z0,z1,z2,z3,z4,z5,zf⟩:=R3.out.next BW.out
 go_wp2_with fail
 clear c0 c1 c2' c3 c4 c5 cf
 clear z0 z1 z2 z3 z4 z5 zf
 generalize World.setCell _ ⟨p2,5,none⟩ _=wf at *
 obtain ⟨f0,f1,f2,f3,f4,f5,_⟩:=S.out
 try simp only [Exit.inBlock,Exit.then]
 refine bodyPost_ret (v:=.agg #[.string op,.string nm,.int .i64 (kd:Nat),.int .i64 n,.int .i64 (pl:Nat),.slice (some ⟨g2,0,none⟩) 2 c2]) (by simp [results,Tryd.results10,go_sem,f0,f1,f2,f3,f4,f5]) rfl ?_
 rw [E.out]
 exact ⟨_,rfl,⟨_,rfl,NF.out⟩,BF.out⟩
end Go.Proofs.YtbeahnehjannpaaDoor
