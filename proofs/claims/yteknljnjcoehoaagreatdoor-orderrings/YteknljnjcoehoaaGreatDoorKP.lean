/- Parts of the proof. -/
import Derived.Test.YteknljnjcoehoaaGreatDoorKN
import Derived.BigQuiet
import Derived.Deep.RegionHeld3
namespace Go.Proofs.YteknljnjcoehoaaGreatDoor
open Go.RowKit
set_option linter.unusedVariables false
set_option linter.unusedSimpArgs false
structure Sm (w:World) (b0 b1 b2 b3 b4 p:Nat) (l0 l1 l2 l3 l4:List (ByteArray × Value)) (f:Nat):Prop where
 bx:B6 w p (.map (some b0)) (.map (some b1)) (.map (some b2)) (.map (some b3)) (.map (some b4)) (.int .i64 (f:Nat))
 m0:MapS w b0 l0
 m1:MapS w b1 l1
 m2:MapS w b2 l2
 m3:MapS w b3 l3
 m4:MapS w b4 l4
 lt:b0<b1∧b1<b2∧b2<b3∧b3<b4∧b4<p
theorem Sm.keep {w w':World} {b0 b1 b2 b3 b4 p:Nat} {l0 l1 l2 l3 l4:List (ByteArray × Value)} {f:Nat} (h:Sm w b0 b1 b2 b3 b4 p l0 l1 l2 l3 l4 f) (hk:∀ g,g=b0∨g=b1∨g=b2∨g=b3∨g=b4∨g=p→w'.heap[g]?=w.heap[g]?):Sm w' b0 b1 b2 b3 b4 p l0 l1 l2 l3 l4 f :=
 ⟨h.bx.keep (hk p (by omega)),h.m0.kept (hk b0 (by omega)),h.m1.kept (hk b1 (by omega)),h.m2.kept (hk b2 (by omega)),h.m3.kept (hk b3 (by omega)),h.m4.kept (hk b4 (by omega)),h.lt⟩
theorem Sm.next {w w':World} {b0 b1 b2 b3 b4 p:Nat} {l0 l1 l2 l3 l4:List (ByteArray × Value)} {f:Nat} (h:Sm w b0 b1 b2 b3 b4 p l0 l1 l2 l3 l4 f) (k:Below w.heap.size w w'):Sm w' b0 b1 b2 b3 b4 p l0 l1 l2 l3 l4 f :=
 h.keep fun g q=>k.block g (by have:=h.bx.lt;have:=h.lt;omega)
theorem Sm.st0 {w:World} {b0 b1 b2 b3 b4 p:Nat} {l0 l1 l2 l3 l4:List (ByteArray × Value)} {f:Nat} (h:Sm w b0 b1 b2 b3 b4 p l0 l1 l2 l3 l4 f) (k:ByteArray) (v:Value):∃ w',(Instr.mapUpdate 195 (.map (some b0)) (.string k) v).run Tryz.prog w=.ok () w'∧Sm w' b0 b1 b2 b3 b4 p (setM l0 k v) l1 l2 l3 l4 f∧w.grownBy w' (some b0):=by
 obtain ⟨w',r,m,g⟩:=storeM w b0 k v l0 h.m0 umK
 have lt:=h.lt
 have pl:=h.bx.lt
 have kb:∀ x,x≠b0→x<w.heap.size→w'.heap[x]?=w.heap[x]?:=fun x n hx=>g.block x hx (fun e=>n (by injection e))
 exact ⟨w',r,⟨h.bx.keep (kb p (by omega) pl),m,h.m1.kept (kb b1 (by omega) (by omega)),h.m2.kept (kb b2 (by omega) (by omega)),h.m3.kept (kb b3 (by omega) (by omega)),h.m4.kept (kb b4 (by omega) (by omega)),lt⟩,g⟩
theorem Sm.st1 {w:World} {b0 b1 b2 b3 b4 p:Nat} {l0 l1 l2 l3 l4:List (ByteArray × Value)} {f:Nat} (h:Sm w b0 b1 b2 b3 b4 p l0 l1 l2 l3 l4 f) (k:ByteArray) (v:Value):∃ w',(Instr.mapUpdate 163 (.map (some b1)) (.string k) v).run Tryz.prog w=.ok () w'∧Sm w' b0 b1 b2 b3 b4 p l0 (setM l1 k v) l2 l3 l4 f∧w.grownBy w' (some b1):=by
 obtain ⟨w',r,m,g⟩:=storeM w b1 k v l1 h.m1 umN
 have lt:=h.lt
 have pl:=h.bx.lt
 have kb:∀ x,x≠b1→x<w.heap.size→w'.heap[x]?=w.heap[x]?:=fun x n hx=>g.block x hx (fun e=>n (by injection e))
 exact ⟨w',r,⟨h.bx.keep (kb p (by omega) pl),h.m0.kept (kb b0 (by omega) (by omega)),m,h.m2.kept (kb b2 (by omega) (by omega)),h.m3.kept (kb b3 (by omega) (by omega)),h.m4.kept (kb b4 (by omega) (by omega)),lt⟩,g⟩
theorem Sm.st2 {w:World} {b0 b1 b2 b3 b4 p:Nat} {l0 l1 l2 l3 l4:List (ByteArray × Value)} {f:Nat} (h:Sm w b0 b1 b2 b3 b4 p l0 l1 l2 l3 l4 f) (k:ByteArray) (v:Value):∃ w',(Instr.mapUpdate 97 (.map (some b2)) (.string k) v).run Tryz.prog w=.ok () w'∧Sm w' b0 b1 b2 b3 b4 p l0 l1 (setM l2 k v) l3 l4 f∧w.grownBy w' (some b2):=by
 obtain ⟨w',r,m,g⟩:=storeM w b2 k v l2 h.m2 umI
 have lt:=h.lt
 have pl:=h.bx.lt
 have kb:∀ x,x≠b2→x<w.heap.size→w'.heap[x]?=w.heap[x]?:=fun x n hx=>g.block x hx (fun e=>n (by injection e))
 exact ⟨w',r,⟨h.bx.keep (kb p (by omega) pl),h.m0.kept (kb b0 (by omega) (by omega)),h.m1.kept (kb b1 (by omega) (by omega)),m,h.m3.kept (kb b3 (by omega) (by omega)),h.m4.kept (kb b4 (by omega) (by omega)),lt⟩,g⟩
theorem belG {a b c:World} {B x:Nat} (h:Below B a b) (k:b.grownBy c (some x)) (hx:B≤x) (hB:B≤b.heap.size):Below B a c :=
 ⟨k.os.trans h.os,k.tape.trans h.tape,k.output.trans h.output,Nat.le_trans h.size k.size,fun i hi=>(k.block i (by omega) (fun e=>by injection e with e;omega)).trans (h.block i hi)⟩
theorem belN {a b c:World} {B:Nat} (h:Below B a b) (k:Below b.heap.size b c) (hB:B≤b.heap.size):Below B a c :=
 ⟨k.os.trans h.os,k.tape.trans h.tape,k.output.trans h.output,Nat.le_trans h.size k.size,fun i hi=>(k.block i (by omega)).trans (h.block i hi)⟩
set_option maxRecDepth 100000 in
set_option maxHeartbeats 8000000 in
theorem declare_inp {w:World} {b0 b1 b2 b3 b4 p:Nat} {l0 l1 l2 l3 l4:List (ByteArray × Value)} {f:Nat} (h:Sm w b0 b1 b2 b3 b4 p l0 l1 l2 l3 l4 f) (nm:ByteArray) (kd:Nat) (n:Int) (pl:Nat) (va:Option Addr) (vm vc:Nat) (c:Nat) (hc:(atM l2 nm).getD (.int .i64 0)=.int .i64 (c:Nat)) (hcb:c≤10000) (v0:Nat) (h0:(atM l0 nm).getD (.int .i64 0)=.int .i64 (v0:Nat)) (xo xn:ByteArray) (xk:Nat) (xN:Int) (xp:Nat) (sa:Option Addr) (sm sc:Nat) (h1:(atM l1 nm).getD (.agg #[.string ⟨#[]⟩,.string ⟨#[]⟩,.int .i64 0,.int .i64 0,.int .i64 0,.slice none 0 0])=.agg #[.string xo,.string xn,.int .i64 (xk:Nat),.int .i64 xN,.int .i64 (xp:Nat),.slice sa sm sc]) :
  Calls Tryz.prog 185 #[.pointer (some ⟨p,0,none⟩),.agg #[.string ⟨#[105,110,112,117,116]⟩,.string nm,.int .i64 (kd:Nat),.int .i64 n,.int .i64 (pl:Nat),.slice va vm vc]] w fun e w'=>e=.returned (.tuple #[])∧Sm w' b0 b1 b2 b3 b4 p (if (atM l0 nm).isSome=true then l0 else setM l0 nm (.int .i64 (kd:Nat))) l1 (setM l2 nm (.int .i64 ((c:Int)+1))) l3 l4 f∧Below b0 w w':=by
 have B1:=hid (show Below w.heap.size w (w.alloc (.cells #[.string ⟨#[105,110,112,117,116]⟩,.string nm,.int .i64 (kd:Nat),.int .i64 n,.int .i64 (pl:Nat),.slice va vm vc] 26)) from (Below.refl _ _).alloc (Nat.le_refl _) _)
 have X1:=hid (B6.new w 26 (.string ⟨#[105,110,112,117,116]⟩) (.string nm) (.int .i64 (kd:Nat)) (.int .i64 n) (.int .i64 (pl:Nat)) (.slice va vm vc))
 have S1:=hid (h.next B1.out)
 have LT:=hid h.lt
 have PQ:=hid h.bx.lt
 have HC:=hid hc
 have H0:=hid h0
 have H1:=hid h1
 have cb:(c:Int)≤10000:=by omega
 have cw:IntKind.i64.wrap ((c:Int)+1)=(c:Int)+1:=by go_arith
 have A1:=hid (show Below b0 w (w.alloc (.cells #[.string ⟨#[105,110,112,117,116]⟩,.string nm,.int .i64 (kd:Nat),.int .i64 n,.int .i64 (pl:Nat),.slice va vm vc] 26)) from B1.out.mono (by have:=h.bx.lt;have:=h.lt;omega))
 obtain ⟨R9,hR⟩:∃ R9,(if (atM l0 nm).isSome=true then l0 else setM l0 nm (.int .i64 (kd:Nat)))=R9:=⟨_,rfl⟩
 have RH:=hid hR
 rw [hR]
 clear h hc h0 h1 hcb hR
 go_enter Tryz.func185,Tryz.ntmps185
 go_upto_region 1 with fail
 generalize World.alloc w _=w1 at *
 have c2:=S1.out.bx.c2
 have y1:=X1.out.c1
 refine wp_region_held_drew (S:=fun W=>W.cell? ⟨p,2,none⟩=some (.map (some b2))∧W.cell? ⟨w.heap.size,1,none⟩=some (.string nm)) (by kernel_rfl) ⟨c2,y1⟩ (fun hHeld=>?_)
 refine take2 rfl (i:=0) (v:=.pointer (some ⟨p,0,none⟩)) (d:=8) rfl rfl (by kernel_rfl) (by kernel_rfl) (by kernel_rfl) (fun _ _ _ h=>h) (Or.inl ⟨by rfl,?_⟩) hHeld ?_
 ·(intro W hW;(try dsimp only at hW);go_simp)
 try simp only [Act.put,List.setIfInBounds_toArray,List.set_cons_zero,List.set_cons_succ]
 refine take2 rfl (i:=1) (v:=.pointer (some ⟨p,0,none⟩)) (d:=9) rfl rfl (by kernel_rfl) (by kernel_rfl) (by kernel_rfl) (fun _ _ _ h=>h) (Or.inl ⟨by rfl,?_⟩) hHeld ?_
 ·(intro W hW;(try dsimp only at hW);go_simp)
 try simp only [Act.put,List.setIfInBounds_toArray,List.set_cons_zero,List.set_cons_succ]
 refine take2 rfl (i:=2) (v:=.pointer (some ⟨p,2,none⟩)) (d:=10) rfl rfl (by kernel_rfl) (by kernel_rfl) (by kernel_rfl) (fun _ _ _ h=>h) (Or.inl ⟨by rfl,?_⟩) hHeld ?_
 ·(intro W hW;(try dsimp only at hW);go_simp)
 try simp only [Act.put,List.setIfInBounds_toArray,List.set_cons_zero,List.set_cons_succ]
 refine take2 rfl (i:=3) (v:=.map (some b2)) (d:=11) rfl rfl (by kernel_rfl) (by kernel_rfl) (by kernel_rfl) (fun _ _ _ h=>h) (Or.inl ⟨by rfl,?_⟩) hHeld ?_
 ·(intro W hW;(try dsimp only at hW);have c4:=hW.1;go_simp)
 try simp only [Act.put,List.setIfInBounds_toArray,List.set_cons_zero,List.set_cons_succ]
 refine take2 rfl (i:=4) (v:=.pointer (some ⟨w.heap.size,1,none⟩)) (d:=12) rfl rfl (by kernel_rfl) (by kernel_rfl) (by kernel_rfl) (fun _ _ _ h=>h) (Or.inl ⟨by rfl,?_⟩) hHeld ?_
 ·(intro W hW;(try dsimp only at hW);go_simp)
 try simp only [Act.put,List.setIfInBounds_toArray,List.set_cons_zero,List.set_cons_succ]
 refine take2 rfl (i:=5) (v:=.string nm) (d:=13) rfl rfl (by kernel_rfl) (by kernel_rfl) (by kernel_rfl) (fun _ _ _ h=>h) (Or.inl ⟨by rfl,?_⟩) hHeld ?_
 ·(intro W hW;(try dsimp only at hW);have c4:=hW.2;go_simp)
 try simp only [Act.put,List.setIfInBounds_toArray,List.set_cons_zero,List.set_cons_succ]
 clear c2 y1
 have D1:=hid (show Below w1.heap.size w1 w1.drew from (Below.refl _ _).drew)
 generalize w1.drew=wz at *
 have SZ:=hid (S1.out.next D1.out)
 have XZ:=hid (X1.out.next D1.out)
 have AZ:=hid (belN A1.out D1.out (by have:=A1.out.size;have:=PQ.out;have:=LT.out;omega))
 have k2:=lookM1 wz b2 nm _ SZ.out.m2 umI zInt
 rw [HC.out] at k2
 refine wpAnyH_ready (rs:=[6]) (by kernel_rfl) (by simp) ?_
 refine cons2 rfl rfl (fun K9 hK=>?_)
 go_simp
 refine hK.out _ _ ⟨SZ.out.bx.c2,XZ.out.c1⟩ (fun hX=>?_)
 clear hK K9 hHeld
 have hHeld:=hX
 clear hX
 try simp only [Act.put,List.setIfInBounds_toArray,List.set_cons_zero,List.set_cons_succ]
 refine take2 rfl (i:=7) (v:=.int .i64 ((c:Int)+1)) (d:=15) rfl rfl (by kernel_rfl) (by kernel_rfl) (by kernel_rfl) (fun _ _ _ h=>h) (Or.inl ⟨by rfl,?_⟩) hHeld ?_
 ·(intro W hW;(try dsimp only at hW);go_simp)
 try simp only [Act.put,List.setIfInBounds_toArray,List.set_cons_zero,List.set_cons_succ]
 clear k2
 obtain ⟨w2,r2,sm2,g2⟩:=SZ.out.st2 nm (.int .i64 ((c:Int)+1))
 have S2:=hid sm2
 have X2:=hid (XZ.out.grown g2 (fun e=>by injection e with e;have:=PQ.out;have:=LT.out;omega))
 have A2:=hid (belG AZ.out g2 (by have:=LT.out;omega) (by have:=AZ.out.size;have:=PQ.out;have:=LT.out;omega))
 clear sm2 g2
 refine wpAnyH_ready (rs:=[8]) (by kernel_rfl) (by simp) ?_
 refine cons2 rfl rfl (fun K9 hK=>?_)
 go_simp
 go_wp2_with fail
 refine hK.out _ _ ⟨S2.out.bx.c2,X2.out.c1⟩ (fun hX=>?_)
 clear hK K9 hHeld
 have hHeld:=hX
 clear hX
 try simp only [Act.put,List.setIfInBounds_toArray,List.set_cons_zero,List.set_cons_succ]
 refine wpAnyH_done (by kernel_rfl) ?_ _
 clear S1 X1 A1 SZ XZ AZ r2 D1
 go_upto_region 2 with fail
 refine wp_region_held_drew (S:=fun W=>Below w2.heap.size w2 W) (by kernel_rfl) (Below.refl _ _).drew (fun hHeld=>?_)
 refine take2 rfl (i:=0) (v:=.pointer (some ⟨p,0,none⟩)) (d:=17) rfl rfl (by kernel_rfl) (by kernel_rfl) (by kernel_rfl) (fun _ _ _ h=>h) (Or.inl ⟨by rfl,?_⟩) hHeld ?_
 ·(intro W hW;(try dsimp only at hW);go_simp)
 try simp only [Act.put,List.setIfInBounds_toArray,List.set_cons_zero,List.set_cons_succ]
 refine take2 rfl (i:=1) (v:=.pointer (some ⟨p,0,none⟩)) (d:=18) rfl rfl (by kernel_rfl) (by kernel_rfl) (by kernel_rfl) (fun _ _ _ h=>h) (Or.inl ⟨by rfl,?_⟩) hHeld ?_
 ·(intro W hW;(try dsimp only at hW);go_simp)
 try simp only [Act.put,List.setIfInBounds_toArray,List.set_cons_zero,List.set_cons_succ]
 refine take2 rfl (i:=2) (v:=.pointer (some ⟨p,0,none⟩)) (d:=19) rfl rfl (by kernel_rfl) (by kernel_rfl) (by kernel_rfl) (fun _ _ _ h=>h) (Or.inl ⟨by rfl,?_⟩) hHeld ?_
 ·(intro W hW;(try dsimp only at hW);go_simp)
 try simp only [Act.put,List.setIfInBounds_toArray,List.set_cons_zero,List.set_cons_succ]
 refine take2 rfl (i:=3) (v:=.map (some b0)) (d:=20) rfl rfl (by kernel_rfl) (by kernel_rfl) (by kernel_rfl) (fun _ _ _ h=>h) (Or.inl ⟨by rfl,?_⟩) hHeld ?_
 ·(intro W hW;(try dsimp only at hW);have c4:=(S2.out.next hW).bx.c0;go_simp)
 try simp only [Act.put,List.setIfInBounds_toArray,List.set_cons_zero,List.set_cons_succ]
 refine take2 rfl (i:=4) (v:=.pointer (some ⟨w.heap.size,1,none⟩)) (d:=21) rfl rfl (by kernel_rfl) (by kernel_rfl) (by kernel_rfl) (fun _ _ _ h=>h) (Or.inl ⟨by rfl,?_⟩) hHeld ?_
 ·(intro W hW;(try dsimp only at hW);go_simp)
 try simp only [Act.put,List.setIfInBounds_toArray,List.set_cons_zero,List.set_cons_succ]
 refine take2 rfl (i:=5) (v:=.string nm) (d:=22) rfl rfl (by kernel_rfl) (by kernel_rfl) (by kernel_rfl) (fun _ _ _ h=>h) (Or.inl ⟨by rfl,?_⟩) hHeld ?_
 ·(intro W hW;(try dsimp only at hW);have c4:=(X2.out.next hW).c1;go_simp)
 try simp only [Act.put,List.setIfInBounds_toArray,List.set_cons_zero,List.set_cons_succ]
 refine take2 rfl (i:=6) (v:=.tuple #[.int .i64 (v0:Nat),.bool (atM l0 nm).isSome]) (d:=23) rfl rfl (by kernel_rfl) (by kernel_rfl) (by kernel_rfl) (fun _ _ _ h=>h) (Or.inl ⟨by rfl,?_⟩) hHeld ?_
 ·(intro W hW;(try dsimp only at hW);have c4:=lookM2 W b0 nm _ (S2.out.next hW).m0 umK zKind;rw [H0.out] at c4;go_simp)
 try simp only [Act.put,List.setIfInBounds_toArray,List.set_cons_zero,List.set_cons_succ]
 refine take2 rfl (i:=7) (v:=.tuple #[.int .i64 (v0:Nat),.bool (atM l0 nm).isSome]) (d:=16) rfl rfl (by kernel_rfl) (by kernel_rfl) (by kernel_rfl) (fun _ _ _ h=>h) (Or.inl ⟨by rfl,?_⟩) hHeld ?_
 ·(intro W hW;(try dsimp only at hW);go_simp)
 try simp only [Act.put,List.setIfInBounds_toArray,List.set_cons_zero,List.set_cons_succ]
 refine take2 rfl (i:=8) (v:=.int .i64 (v0:Nat)) (d:=24) rfl rfl (by kernel_rfl) (by kernel_rfl) (by kernel_rfl) (fun _ _ _ h=>h) (Or.inl ⟨by rfl,?_⟩) hHeld ?_
 ·(intro W hW;(try dsimp only at hW);go_simp)
 try simp only [Act.put,List.setIfInBounds_toArray,List.set_cons_zero,List.set_cons_succ]
 refine take2 rfl (i:=9) (v:=.bool (atM l0 nm).isSome) (d:=25) rfl rfl (by kernel_rfl) (by kernel_rfl) (by kernel_rfl) (fun _ _ _ h=>h) (Or.inl ⟨by rfl,?_⟩) hHeld ?_
 ·(intro W hW;(try dsimp only at hW);go_simp)
 try simp only [Act.put,List.setIfInBounds_toArray,List.set_cons_zero,List.set_cons_succ]
 refine take2 rfl (i:=10) (v:=.int .i64 (v0:Nat)) (d:=4) rfl rfl (by kernel_rfl) (by kernel_rfl) (by kernel_rfl) (fun _ _ _ h=>h) (Or.inl ⟨by rfl,?_⟩) hHeld ?_
 ·(intro W hW;(try dsimp only at hW);go_simp)
 try simp only [Act.put,List.setIfInBounds_toArray,List.set_cons_zero,List.set_cons_succ]
 refine take2 rfl (i:=11) (v:=.bool (atM l0 nm).isSome) (d:=5) rfl rfl (by kernel_rfl) (by kernel_rfl) (by kernel_rfl) (fun _ _ _ h=>h) (Or.inl ⟨by rfl,?_⟩) hHeld ?_
 ·(intro W hW;(try dsimp only at hW);go_simp)
 try simp only [Act.put,List.setIfInBounds_toArray,List.set_cons_zero,List.set_cons_succ]
 refine wpAnyH_done (by kernel_rfl) ?_ _
 have D2:=hid (show Below w2.heap.size w2 w2.drew from (Below.refl _ _).drew)
 generalize w2.drew=w3 at *
 have S3:=hid (S2.out.next D2.out)
 have X3:=hid (X2.out.next D2.out)
 have A3:=hid (belN A2.out D2.out (by have:=A2.out.size;have:=PQ.out;have:=LT.out;omega))
 clear S2 X2 A2 D2
 go_upto_region 3 with fail
 refine wp_region_held_drew (S:=fun W=>Below w3.heap.size w3 W) (by kernel_rfl) (Below.refl _ _).drew (fun hHeld=>?_)
 refine take2 rfl (i:=0) (v:=.pointer (some ⟨p,0,none⟩)) (d:=27) rfl rfl (by kernel_rfl) (by kernel_rfl) (by kernel_rfl) (fun _ _ _ h=>h) (Or.inl ⟨by rfl,?_⟩) hHeld ?_
 ·(intro W hW;(try dsimp only at hW);go_simp)
 try simp only [Act.put,List.setIfInBounds_toArray,List.set_cons_zero,List.set_cons_succ]
 refine take2 rfl (i:=1) (v:=.pointer (some ⟨p,0,none⟩)) (d:=28) rfl rfl (by kernel_rfl) (by kernel_rfl) (by kernel_rfl) (fun _ _ _ h=>h) (Or.inl ⟨by rfl,?_⟩) hHeld ?_
 ·(intro W hW;(try dsimp only at hW);go_simp)
 try simp only [Act.put,List.setIfInBounds_toArray,List.set_cons_zero,List.set_cons_succ]
 refine take2 rfl (i:=2) (v:=.pointer (some ⟨p,1,none⟩)) (d:=29) rfl rfl (by kernel_rfl) (by kernel_rfl) (by kernel_rfl) (fun _ _ _ h=>h) (Or.inl ⟨by rfl,?_⟩) hHeld ?_
 ·(intro W hW;(try dsimp only at hW);go_simp)
 try simp only [Act.put,List.setIfInBounds_toArray,List.set_cons_zero,List.set_cons_succ]
 refine take2 rfl (i:=3) (v:=.map (some b1)) (d:=30) rfl rfl (by kernel_rfl) (by kernel_rfl) (by kernel_rfl) (fun _ _ _ h=>h) (Or.inl ⟨by rfl,?_⟩) hHeld ?_
 ·(intro W hW;(try dsimp only at hW);have c4:=(S3.out.next hW).bx.c1;go_simp)
 try simp only [Act.put,List.setIfInBounds_toArray,List.set_cons_zero,List.set_cons_succ]
 refine take2 rfl (i:=4) (v:=.pointer (some ⟨w.heap.size,1,none⟩)) (d:=31) rfl rfl (by kernel_rfl) (by kernel_rfl) (by kernel_rfl) (fun _ _ _ h=>h) (Or.inl ⟨by rfl,?_⟩) hHeld ?_
 ·(intro W hW;(try dsimp only at hW);go_simp)
 try simp only [Act.put,List.setIfInBounds_toArray,List.set_cons_zero,List.set_cons_succ]
 refine take2 rfl (i:=5) (v:=.string nm) (d:=32) rfl rfl (by kernel_rfl) (by kernel_rfl) (by kernel_rfl) (fun _ _ _ h=>h) (Or.inl ⟨by rfl,?_⟩) hHeld ?_
 ·(intro W hW;(try dsimp only at hW);have c4:=(X3.out.next hW).c1;go_simp)
 try simp only [Act.put,List.setIfInBounds_toArray,List.set_cons_zero,List.set_cons_succ]
 refine take2 rfl (i:=6) (v:=.tuple #[.agg #[.string xo,.string xn,.int .i64 (xk:Nat),.int .i64 xN,.int .i64 (xp:Nat),.slice sa sm sc],.bool (atM l1 nm).isSome]) (d:=33) rfl rfl (by kernel_rfl) (by kernel_rfl) (by kernel_rfl) (fun _ _ _ h=>h) (Or.inl ⟨by rfl,?_⟩) hHeld ?_
 ·(intro W hW;(try dsimp only at hW);have c4:=lookM2 W b1 nm _ (S3.out.next hW).m1 umN zNode;rw [H1.out] at c4;go_simp)
 try simp only [Act.put,List.setIfInBounds_toArray,List.set_cons_zero,List.set_cons_succ]
 refine take2 rfl (i:=7) (v:=.tuple #[.agg #[.string xo,.string xn,.int .i64 (xk:Nat),.int .i64 xN,.int .i64 (xp:Nat),.slice sa sm sc],.bool (atM l1 nm).isSome]) (d:=26) rfl rfl (by kernel_rfl) (by kernel_rfl) (by kernel_rfl) (fun _ _ _ h=>h) (Or.inl ⟨by rfl,?_⟩) hHeld ?_
 ·(intro W hW;(try dsimp only at hW);go_simp)
 try simp only [Act.put,List.setIfInBounds_toArray,List.set_cons_zero,List.set_cons_succ]
 refine take2 rfl (i:=8) (v:=.agg #[.string xo,.string xn,.int .i64 (xk:Nat),.int .i64 xN,.int .i64 (xp:Nat),.slice sa sm sc]) (d:=34) rfl rfl (by kernel_rfl) (by kernel_rfl) (by kernel_rfl) (fun _ _ _ h=>h) (Or.inl ⟨by rfl,?_⟩) hHeld ?_
 ·(intro W hW;(try dsimp only at hW);go_simp)
 try simp only [Act.put,List.setIfInBounds_toArray,List.set_cons_zero,List.set_cons_succ]
 refine take2 rfl (i:=9) (v:=.bool (atM l1 nm).isSome) (d:=35) rfl rfl (by kernel_rfl) (by kernel_rfl) (by kernel_rfl) (fun _ _ _ h=>h) (Or.inl ⟨by rfl,?_⟩) hHeld ?_
 ·(intro W hW;(try dsimp only at hW);go_simp)
 try simp only [Act.put,List.setIfInBounds_toArray,List.set_cons_zero,List.set_cons_succ]
 have BZ:=hid (show Below w3.heap.size w3 w3.drew from (Below.refl _ _).drew)
 generalize w3.drew=wz at *
 have BA:=hid (nextB BZ.out (show Below wz.heap.size wz (wz.alloc (.cells #[.string ⟨#[]⟩,.string ⟨#[]⟩,.int .i64 0,.int .i64 0,.int .i64 0,.slice none 0 0] 26)) from (Below.refl _ _).alloc (Nat.le_refl _) _))
 have HB:=hid (B6.new wz 26 (.string ⟨#[]⟩) (.string ⟨#[]⟩) (.int .i64 0) (.int .i64 0) (.int .i64 0) (.slice none 0 0))
 have SZ:=hid BZ.out.size
 refine wpAnyH_ready (rs:=[10]) (by kernel_rfl) (by simp) ?_
 refine cons2 rfl rfl (fun K9 hK=>?_)
 go_simp
 refine hK.out _ _ BA.out (fun hX=>?_)
 clear hK K9 hHeld
 have hHeld:=hX
 clear hX
 try simp only [Act.put,List.setIfInBounds_toArray,List.set_cons_zero,List.set_cons_succ]
 generalize World.alloc wz _=w4 at *
 have BS:=hid (Below.put6Y BA.out (q:=wz.heap.size) SZ.out (.string xo) (.string xn) (.int .i64 (xk:Nat)) (.int .i64 xN) (.int .i64 (xp:Nat)) (.slice sa sm sc))
 obtain ⟨g0,g1,g2,g3,g4,g5,gz⟩:=HB.out
 generalize wz.heap.size=r at *
 refine wpAnyH_ready (rs:=[11]) (by kernel_rfl) (by simp) ?_
 refine cons2 rfl rfl (fun K9 hK=>?_)
 go_simp
 refine hK.out _ _ BS.out (fun hX=>?_)
 clear hK K9 hHeld
 have hHeld:=hX
 clear hX
 try simp only [Act.put,List.setIfInBounds_toArray,List.set_cons_zero,List.set_cons_succ]
 clear g0 g1 g2 g3 g4 g5 gz
 generalize World.setCell _ ⟨r,5,none⟩ _=w5 at *
 refine take2 rfl (i:=12) (v:=.bool (atM l1 nm).isSome) (d:=7) rfl rfl (by kernel_rfl) (by kernel_rfl) (by kernel_rfl) (fun _ _ _ h=>h) (Or.inl ⟨by rfl,?_⟩) hHeld ?_
 ·(intro W hW;(try dsimp only at hW);go_simp)
 try simp only [Act.put,List.setIfInBounds_toArray,List.set_cons_zero,List.set_cons_succ]
 refine wpAnyH_done (by kernel_rfl) ?_ _
 have S5:=hid (S3.out.next BS.out)
 have X5:=hid (X3.out.next BS.out)
 have A5:=hid (belN A3.out BS.out (by have:=A3.out.size;have:=PQ.out;have:=LT.out;omega))
 clear S3 X3 A3 BS BA HB BZ SZ
 have x0:=X5.out.c0
 cases qs:(atM l0 nm).isSome with
 | true =>
  have RF:=hid (show l0=R9 from by rw [← RH.out,qs];rfl)
  go_wp2_with fail
  go_returns
  exact ⟨rfl,by rw [← RF.out];exact S5.out,A5.out⟩
 | false =>
  have RF:=hid (show setM l0 nm (.int .i64 (kd:Nat))=R9 from by rw [← RH.out,qs];rfl)
  go_upto_region 7 with fail
  clear x0
  refine wp_region_held_drew (S:=fun W=>W.cell? ⟨p,0,none⟩=some (.map (some b0))∧W.cell? ⟨w.heap.size,1,none⟩=some (.string nm)∧W.cell? ⟨w.heap.size,2,none⟩=some (.int .i64 (kd:Nat))) (by kernel_rfl) ⟨S5.out.bx.c0,X5.out.c1,X5.out.c2⟩ (fun hHeld=>?_)
  refine take2 rfl (i:=0) (v:=.pointer (some ⟨p,0,none⟩)) (d:=64) rfl rfl (by kernel_rfl) (by kernel_rfl) (by kernel_rfl) (fun _ _ _ h=>h) (Or.inl ⟨by rfl,?_⟩) hHeld ?_
  ·(intro W hW;(try dsimp only at hW);go_simp)
  try simp only [Act.put,List.setIfInBounds_toArray,List.set_cons_zero,List.set_cons_succ]
  refine take2 rfl (i:=1) (v:=.pointer (some ⟨p,0,none⟩)) (d:=65) rfl rfl (by kernel_rfl) (by kernel_rfl) (by kernel_rfl) (fun _ _ _ h=>h) (Or.inl ⟨by rfl,?_⟩) hHeld ?_
  ·(intro W hW;(try dsimp only at hW);go_simp)
  try simp only [Act.put,List.setIfInBounds_toArray,List.set_cons_zero,List.set_cons_succ]
  refine take2 rfl (i:=2) (v:=.pointer (some ⟨p,0,none⟩)) (d:=66) rfl rfl (by kernel_rfl) (by kernel_rfl) (by kernel_rfl) (fun _ _ _ h=>h) (Or.inl ⟨by rfl,?_⟩) hHeld ?_
  ·(intro W hW;(try dsimp only at hW);go_simp)
  try simp only [Act.put,List.setIfInBounds_toArray,List.set_cons_zero,List.set_cons_succ]
  refine take2 rfl (i:=3) (v:=.map (some b0)) (d:=67) rfl rfl (by kernel_rfl) (by kernel_rfl) (by kernel_rfl) (fun _ _ _ h=>h) (Or.inl ⟨by rfl,?_⟩) hHeld ?_
  ·(intro W hW;(try dsimp only at hW);have c4:=hW.1;go_simp)
  try simp only [Act.put,List.setIfInBounds_toArray,List.set_cons_zero,List.set_cons_succ]
  refine take2 rfl (i:=4) (v:=.pointer (some ⟨w.heap.size,1,none⟩)) (d:=68) rfl rfl (by kernel_rfl) (by kernel_rfl) (by kernel_rfl) (fun _ _ _ h=>h) (Or.inl ⟨by rfl,?_⟩) hHeld ?_
  ·(intro W hW;(try dsimp only at hW);go_simp)
  try simp only [Act.put,List.setIfInBounds_toArray,List.set_cons_zero,List.set_cons_succ]
  refine take2 rfl (i:=5) (v:=.string nm) (d:=69) rfl rfl (by kernel_rfl) (by kernel_rfl) (by kernel_rfl) (fun _ _ _ h=>h) (Or.inl ⟨by rfl,?_⟩) hHeld ?_
  ·(intro W hW;(try dsimp only at hW);have c4:=hW.2.1;go_simp)
  try simp only [Act.put,List.setIfInBounds_toArray,List.set_cons_zero,List.set_cons_succ]
  refine take2 rfl (i:=6) (v:=.pointer (some ⟨w.heap.size,2,none⟩)) (d:=70) rfl rfl (by kernel_rfl) (by kernel_rfl) (by kernel_rfl) (fun _ _ _ h=>h) (Or.inl ⟨by rfl,?_⟩) hHeld ?_
  ·(intro W hW;(try dsimp only at hW);go_simp)
  try simp only [Act.put,List.setIfInBounds_toArray,List.set_cons_zero,List.set_cons_succ]
  refine take2 rfl (i:=7) (v:=.int .i64 (kd:Nat)) (d:=71) rfl rfl (by kernel_rfl) (by kernel_rfl) (by kernel_rfl) (fun _ _ _ h=>h) (Or.inl ⟨by rfl,?_⟩) hHeld ?_
  ·(intro W hW;(try dsimp only at hW);have c4:=hW.2.2;go_simp)
  try simp only [Act.put,List.setIfInBounds_toArray,List.set_cons_zero,List.set_cons_succ]
  have D5:=hid (show Below w5.heap.size w5 w5.drew from (Below.refl _ _).drew)
  generalize w5.drew=wy at *
  have SY:=hid (S5.out.next D5.out)
  have XY:=hid (X5.out.next D5.out)
  have AY:=hid (belN A5.out D5.out (by have:=A5.out.size;have:=PQ.out;have:=LT.out;omega))
  obtain ⟨w6,r6,sm6,g6⟩:=SY.out.st0 nm (.int .i64 (kd:Nat))
  have S6:=hid sm6
  have X6:=hid (XY.out.grown g6 (fun e=>by injection e with e;have:=PQ.out;have:=LT.out;omega))
  have A6:=hid (belG AY.out g6 (by have:=LT.out;omega) (by have:=AY.out.size;have:=PQ.out;have:=LT.out;omega))
  clear sm6 g6
  refine wpAnyH_ready (rs:=[8]) (by kernel_rfl) (by simp) ?_
  refine cons2 rfl rfl (fun K9 hK=>?_)
  go_simp
  go_wp2_with fail
  refine hK.out _ _ ⟨S6.out.bx.c0,X6.out.c1,X6.out.c2⟩ (fun hX=>?_)
  clear hK K9 hHeld
  have hHeld:=hX
  clear hX
  try simp only [Act.put,List.setIfInBounds_toArray,List.set_cons_zero,List.set_cons_succ]
  refine wpAnyH_done (by kernel_rfl) ?_ _
  go_wp2_with fail
  go_returns
  exact ⟨rfl,by rw [← RF.out];exact S6.out,A6.out⟩
set_option maxRecDepth 100000 in
set_option maxHeartbeats 8000000 in
theorem declare_rul {w:World} {b0 b1 b2 b3 b4 p:Nat} {l0 l1 l2 l3 l4:List (ByteArray × Value)} {f:Nat} (h:Sm w b0 b1 b2 b3 b4 p l0 l1 l2 l3 l4 f) (nm:ByteArray) (kd:Nat) (n:Int) (pl:Nat) (va:Option Addr) (vm vc:Nat) (c:Nat) (hc:(atM l2 nm).getD (.int .i64 0)=.int .i64 (c:Nat)) (hcb:c≤10000) (v0:Nat) (h0:(atM l0 nm).getD (.int .i64 0)=.int .i64 (v0:Nat)) (xo xn:ByteArray) (xk:Nat) (xN:Int) (xp:Nat) (sa:Option Addr) (sm sc:Nat) (h1:(atM l1 nm).getD (.agg #[.string ⟨#[]⟩,.string ⟨#[]⟩,.int .i64 0,.int .i64 0,.int .i64 0,.slice none 0 0])=.agg #[.string xo,.string xn,.int .i64 (xk:Nat),.int .i64 xN,.int .i64 (xp:Nat),.slice sa sm sc]) :
  Calls Tryz.prog 185 #[.pointer (some ⟨p,0,none⟩),.agg #[.string ⟨#[114,117,108,101]⟩,.string nm,.int .i64 (kd:Nat),.int .i64 n,.int .i64 (pl:Nat),.slice va vm vc]] w fun e w'=>e=.returned (.tuple #[])∧Sm w' b0 b1 b2 b3 b4 p (if (atM l0 nm).isSome=true then l0 else setM l0 nm (.int .i64 (kd:Nat))) l1 (setM l2 nm (.int .i64 ((c:Int)+1))) l3 l4 f∧Below b0 w w':=by
 have B1:=hid (show Below w.heap.size w (w.alloc (.cells #[.string ⟨#[114,117,108,101]⟩,.string nm,.int .i64 (kd:Nat),.int .i64 n,.int .i64 (pl:Nat),.slice va vm vc] 26)) from (Below.refl _ _).alloc (Nat.le_refl _) _)
 have X1:=hid (B6.new w 26 (.string ⟨#[114,117,108,101]⟩) (.string nm) (.int .i64 (kd:Nat)) (.int .i64 n) (.int .i64 (pl:Nat)) (.slice va vm vc))
 have S1:=hid (h.next B1.out)
 have LT:=hid h.lt
 have PQ:=hid h.bx.lt
 have HC:=hid hc
 have H0:=hid h0
 have H1:=hid h1
 have cb:(c:Int)≤10000:=by omega
 have cw:IntKind.i64.wrap ((c:Int)+1)=(c:Int)+1:=by go_arith
 have A1:=hid (show Below b0 w (w.alloc (.cells #[.string ⟨#[114,117,108,101]⟩,.string nm,.int .i64 (kd:Nat),.int .i64 n,.int .i64 (pl:Nat),.slice va vm vc] 26)) from B1.out.mono (by have:=h.bx.lt;have:=h.lt;omega))
 obtain ⟨R9,hR⟩:∃ R9,(if (atM l0 nm).isSome=true then l0 else setM l0 nm (.int .i64 (kd:Nat)))=R9:=⟨_,rfl⟩
 have RH:=hid hR
 rw [hR]
 clear h hc h0 h1 hcb hR
 go_enter Tryz.func185,Tryz.ntmps185
 go_upto_region 1 with fail
 generalize World.alloc w _=w1 at *
 have c2:=S1.out.bx.c2
 have y1:=X1.out.c1
 refine wp_region_held_drew (S:=fun W=>W.cell? ⟨p,2,none⟩=some (.map (some b2))∧W.cell? ⟨w.heap.size,1,none⟩=some (.string nm)) (by kernel_rfl) ⟨c2,y1⟩ (fun hHeld=>?_)
 refine take2 rfl (i:=0) (v:=.pointer (some ⟨p,0,none⟩)) (d:=8) rfl rfl (by kernel_rfl) (by kernel_rfl) (by kernel_rfl) (fun _ _ _ h=>h) (Or.inl ⟨by rfl,?_⟩) hHeld ?_
 ·(intro W hW;(try dsimp only at hW);go_simp)
 try simp only [Act.put,List.setIfInBounds_toArray,List.set_cons_zero,List.set_cons_succ]
 refine take2 rfl (i:=1) (v:=.pointer (some ⟨p,0,none⟩)) (d:=9) rfl rfl (by kernel_rfl) (by kernel_rfl) (by kernel_rfl) (fun _ _ _ h=>h) (Or.inl ⟨by rfl,?_⟩) hHeld ?_
 ·(intro W hW;(try dsimp only at hW);go_simp)
 try simp only [Act.put,List.setIfInBounds_toArray,List.set_cons_zero,List.set_cons_succ]
 refine take2 rfl (i:=2) (v:=.pointer (some ⟨p,2,none⟩)) (d:=10) rfl rfl (by kernel_rfl) (by kernel_rfl) (by kernel_rfl) (fun _ _ _ h=>h) (Or.inl ⟨by rfl,?_⟩) hHeld ?_
 ·(intro W hW;(try dsimp only at hW);go_simp)
 try simp only [Act.put,List.setIfInBounds_toArray,List.set_cons_zero,List.set_cons_succ]
 refine take2 rfl (i:=3) (v:=.map (some b2)) (d:=11) rfl rfl (by kernel_rfl) (by kernel_rfl) (by kernel_rfl) (fun _ _ _ h=>h) (Or.inl ⟨by rfl,?_⟩) hHeld ?_
 ·(intro W hW;(try dsimp only at hW);have c4:=hW.1;go_simp)
 try simp only [Act.put,List.setIfInBounds_toArray,List.set_cons_zero,List.set_cons_succ]
 refine take2 rfl (i:=4) (v:=.pointer (some ⟨w.heap.size,1,none⟩)) (d:=12) rfl rfl (by kernel_rfl) (by kernel_rfl) (by kernel_rfl) (fun _ _ _ h=>h) (Or.inl ⟨by rfl,?_⟩) hHeld ?_
 ·(intro W hW;(try dsimp only at hW);go_simp)
 try simp only [Act.put,List.setIfInBounds_toArray,List.set_cons_zero,List.set_cons_succ]
 refine take2 rfl (i:=5) (v:=.string nm) (d:=13) rfl rfl (by kernel_rfl) (by kernel_rfl) (by kernel_rfl) (fun _ _ _ h=>h) (Or.inl ⟨by rfl,?_⟩) hHeld ?_
 ·(intro W hW;(try dsimp only at hW);have c4:=hW.2;go_simp)
 try simp only [Act.put,List.setIfInBounds_toArray,List.set_cons_zero,List.set_cons_succ]
 clear c2 y1
 have D1:=hid (show Below w1.heap.size w1 w1.drew from (Below.refl _ _).drew)
 generalize w1.drew=wz at *
 have SZ:=hid (S1.out.next D1.out)
 have XZ:=hid (X1.out.next D1.out)
 have AZ:=hid (belN A1.out D1.out (by have:=A1.out.size;have:=PQ.out;have:=LT.out;omega))
 have k2:=lookM1 wz b2 nm _ SZ.out.m2 umI zInt
 rw [HC.out] at k2
 refine wpAnyH_ready (rs:=[6]) (by kernel_rfl) (by simp) ?_
 refine cons2 rfl rfl (fun K9 hK=>?_)
 go_simp
 refine hK.out _ _ ⟨SZ.out.bx.c2,XZ.out.c1⟩ (fun hX=>?_)
 clear hK K9 hHeld
 have hHeld:=hX
 clear hX
 try simp only [Act.put,List.setIfInBounds_toArray,List.set_cons_zero,List.set_cons_succ]
 refine take2 rfl (i:=7) (v:=.int .i64 ((c:Int)+1)) (d:=15) rfl rfl (by kernel_rfl) (by kernel_rfl) (by kernel_rfl) (fun _ _ _ h=>h) (Or.inl ⟨by rfl,?_⟩) hHeld ?_
 ·(intro W hW;(try dsimp only at hW);go_simp)
 try simp only [Act.put,List.setIfInBounds_toArray,List.set_cons_zero,List.set_cons_succ]
 clear k2
 obtain ⟨w2,r2,sm2,g2⟩:=SZ.out.st2 nm (.int .i64 ((c:Int)+1))
 have S2:=hid sm2
 have X2:=hid (XZ.out.grown g2 (fun e=>by injection e with e;have:=PQ.out;have:=LT.out;omega))
 have A2:=hid (belG AZ.out g2 (by have:=LT.out;omega) (by have:=AZ.out.size;have:=PQ.out;have:=LT.out;omega))
 clear sm2 g2
 refine wpAnyH_ready (rs:=[8]) (by kernel_rfl) (by simp) ?_
 refine cons2 rfl rfl (fun K9 hK=>?_)
 go_simp
 go_wp2_with fail
 refine hK.out _ _ ⟨S2.out.bx.c2,X2.out.c1⟩ (fun hX=>?_)
 clear hK K9 hHeld
 have hHeld:=hX
 clear hX
 try simp only [Act.put,List.setIfInBounds_toArray,List.set_cons_zero,List.set_cons_succ]
 refine wpAnyH_done (by kernel_rfl) ?_ _
 clear S1 X1 A1 SZ XZ AZ r2 D1
 go_upto_region 2 with fail
 refine wp_region_held_drew (S:=fun W=>Below w2.heap.size w2 W) (by kernel_rfl) (Below.refl _ _).drew (fun hHeld=>?_)
 refine take2 rfl (i:=0) (v:=.pointer (some ⟨p,0,none⟩)) (d:=17) rfl rfl (by kernel_rfl) (by kernel_rfl) (by kernel_rfl) (fun _ _ _ h=>h) (Or.inl ⟨by rfl,?_⟩) hHeld ?_
 ·(intro W hW;(try dsimp only at hW);go_simp)
 try simp only [Act.put,List.setIfInBounds_toArray,List.set_cons_zero,List.set_cons_succ]
 refine take2 rfl (i:=1) (v:=.pointer (some ⟨p,0,none⟩)) (d:=18) rfl rfl (by kernel_rfl) (by kernel_rfl) (by kernel_rfl) (fun _ _ _ h=>h) (Or.inl ⟨by rfl,?_⟩) hHeld ?_
 ·(intro W hW;(try dsimp only at hW);go_simp)
 try simp only [Act.put,List.setIfInBounds_toArray,List.set_cons_zero,List.set_cons_succ]
 refine take2 rfl (i:=2) (v:=.pointer (some ⟨p,0,none⟩)) (d:=19) rfl rfl (by kernel_rfl) (by kernel_rfl) (by kernel_rfl) (fun _ _ _ h=>h) (Or.inl ⟨by rfl,?_⟩) hHeld ?_
 ·(intro W hW;(try dsimp only at hW);go_simp)
 try simp only [Act.put,List.setIfInBounds_toArray,List.set_cons_zero,List.set_cons_succ]
 refine take2 rfl (i:=3) (v:=.map (some b0)) (d:=20) rfl rfl (by kernel_rfl) (by kernel_rfl) (by kernel_rfl) (fun _ _ _ h=>h) (Or.inl ⟨by rfl,?_⟩) hHeld ?_
 ·(intro W hW;(try dsimp only at hW);have c4:=(S2.out.next hW).bx.c0;go_simp)
 try simp only [Act.put,List.setIfInBounds_toArray,List.set_cons_zero,List.set_cons_succ]
 refine take2 rfl (i:=4) (v:=.pointer (some ⟨w.heap.size,1,none⟩)) (d:=21) rfl rfl (by kernel_rfl) (by kernel_rfl) (by kernel_rfl) (fun _ _ _ h=>h) (Or.inl ⟨by rfl,?_⟩) hHeld ?_
 ·(intro W hW;(try dsimp only at hW);go_simp)
 try simp only [Act.put,List.setIfInBounds_toArray,List.set_cons_zero,List.set_cons_succ]
 refine take2 rfl (i:=5) (v:=.string nm) (d:=22) rfl rfl (by kernel_rfl) (by kernel_rfl) (by kernel_rfl) (fun _ _ _ h=>h) (Or.inl ⟨by rfl,?_⟩) hHeld ?_
 ·(intro W hW;(try dsimp only at hW);have c4:=(X2.out.next hW).c1;go_simp)
 try simp only [Act.put,List.setIfInBounds_toArray,List.set_cons_zero,List.set_cons_succ]
 refine take2 rfl (i:=6) (v:=.tuple #[.int .i64 (v0:Nat),.bool (atM l0 nm).isSome]) (d:=23) rfl rfl (by kernel_rfl) (by kernel_rfl) (by kernel_rfl) (fun _ _ _ h=>h) (Or.inl ⟨by rfl,?_⟩) hHeld ?_
 ·(intro W hW;(try dsimp only at hW);have c4:=lookM2 W b0 nm _ (S2.out.next hW).m0 umK zKind;rw [H0.out] at c4;go_simp)
 try simp only [Act.put,List.setIfInBounds_toArray,List.set_cons_zero,List.set_cons_succ]
 refine take2 rfl (i:=7) (v:=.tuple #[.int .i64 (v0:Nat),.bool (atM l0 nm).isSome]) (d:=16) rfl rfl (by kernel_rfl) (by kernel_rfl) (by kernel_rfl) (fun _ _ _ h=>h) (Or.inl ⟨by rfl,?_⟩) hHeld ?_
 ·(intro W hW;(try dsimp only at hW);go_simp)
 try simp only [Act.put,List.setIfInBounds_toArray,List.set_cons_zero,List.set_cons_succ]
 refine take2 rfl (i:=8) (v:=.int .i64 (v0:Nat)) (d:=24) rfl rfl (by kernel_rfl) (by kernel_rfl) (by kernel_rfl) (fun _ _ _ h=>h) (Or.inl ⟨by rfl,?_⟩) hHeld ?_
 ·(intro W hW;(try dsimp only at hW);go_simp)
 try simp only [Act.put,List.setIfInBounds_toArray,List.set_cons_zero,List.set_cons_succ]
 refine take2 rfl (i:=9) (v:=.bool (atM l0 nm).isSome) (d:=25) rfl rfl (by kernel_rfl) (by kernel_rfl) (by kernel_rfl) (fun _ _ _ h=>h) (Or.inl ⟨by rfl,?_⟩) hHeld ?_
 ·(intro W hW;(try dsimp only at hW);go_simp)
 try simp only [Act.put,List.setIfInBounds_toArray,List.set_cons_zero,List.set_cons_succ]
 refine take2 rfl (i:=10) (v:=.int .i64 (v0:Nat)) (d:=4) rfl rfl (by kernel_rfl) (by kernel_rfl) (by kernel_rfl) (fun _ _ _ h=>h) (Or.inl ⟨by rfl,?_⟩) hHeld ?_
 ·(intro W hW;(try dsimp only at hW);go_simp)
 try simp only [Act.put,List.setIfInBounds_toArray,List.set_cons_zero,List.set_cons_succ]
 refine take2 rfl (i:=11) (v:=.bool (atM l0 nm).isSome) (d:=5) rfl rfl (by kernel_rfl) (by kernel_rfl) (by kernel_rfl) (fun _ _ _ h=>h) (Or.inl ⟨by rfl,?_⟩) hHeld ?_
 ·(intro W hW;(try dsimp only at hW);go_simp)
 try simp only [Act.put,List.setIfInBounds_toArray,List.set_cons_zero,List.set_cons_succ]
 refine wpAnyH_done (by kernel_rfl) ?_ _
 have D2:=hid (show Below w2.heap.size w2 w2.drew from (Below.refl _ _).drew)
 generalize w2.drew=w3 at *
 have S3:=hid (S2.out.next D2.out)
 have X3:=hid (X2.out.next D2.out)
 have A3:=hid (belN A2.out D2.out (by have:=A2.out.size;have:=PQ.out;have:=LT.out;omega))
 clear S2 X2 A2 D2
 go_upto_region 3 with fail
 refine wp_region_held_drew (S:=fun W=>Below w3.heap.size w3 W) (by kernel_rfl) (Below.refl _ _).drew (fun hHeld=>?_)
 refine take2 rfl (i:=0) (v:=.pointer (some ⟨p,0,none⟩)) (d:=27) rfl rfl (by kernel_rfl) (by kernel_rfl) (by kernel_rfl) (fun _ _ _ h=>h) (Or.inl ⟨by rfl,?_⟩) hHeld ?_
 ·(intro W hW;(try dsimp only at hW);go_simp)
 try simp only [Act.put,List.setIfInBounds_toArray,List.set_cons_zero,List.set_cons_succ]
 refine take2 rfl (i:=1) (v:=.pointer (some ⟨p,0,none⟩)) (d:=28) rfl rfl (by kernel_rfl) (by kernel_rfl) (by kernel_rfl) (fun _ _ _ h=>h) (Or.inl ⟨by rfl,?_⟩) hHeld ?_
 ·(intro W hW;(try dsimp only at hW);go_simp)
 try simp only [Act.put,List.setIfInBounds_toArray,List.set_cons_zero,List.set_cons_succ]
 refine take2 rfl (i:=2) (v:=.pointer (some ⟨p,1,none⟩)) (d:=29) rfl rfl (by kernel_rfl) (by kernel_rfl) (by kernel_rfl) (fun _ _ _ h=>h) (Or.inl ⟨by rfl,?_⟩) hHeld ?_
 ·(intro W hW;(try dsimp only at hW);go_simp)
 try simp only [Act.put,List.setIfInBounds_toArray,List.set_cons_zero,List.set_cons_succ]
 refine take2 rfl (i:=3) (v:=.map (some b1)) (d:=30) rfl rfl (by kernel_rfl) (by kernel_rfl) (by kernel_rfl) (fun _ _ _ h=>h) (Or.inl ⟨by rfl,?_⟩) hHeld ?_
 ·(intro W hW;(try dsimp only at hW);have c4:=(S3.out.next hW).bx.c1;go_simp)
 try simp only [Act.put,List.setIfInBounds_toArray,List.set_cons_zero,List.set_cons_succ]
 refine take2 rfl (i:=4) (v:=.pointer (some ⟨w.heap.size,1,none⟩)) (d:=31) rfl rfl (by kernel_rfl) (by kernel_rfl) (by kernel_rfl) (fun _ _ _ h=>h) (Or.inl ⟨by rfl,?_⟩) hHeld ?_
 ·(intro W hW;(try dsimp only at hW);go_simp)
 try simp only [Act.put,List.setIfInBounds_toArray,List.set_cons_zero,List.set_cons_succ]
 refine take2 rfl (i:=5) (v:=.string nm) (d:=32) rfl rfl (by kernel_rfl) (by kernel_rfl) (by kernel_rfl) (fun _ _ _ h=>h) (Or.inl ⟨by rfl,?_⟩) hHeld ?_
 ·(intro W hW;(try dsimp only at hW);have c4:=(X3.out.next hW).c1;go_simp)
 try simp only [Act.put,List.setIfInBounds_toArray,List.set_cons_zero,List.set_cons_succ]
 refine take2 rfl (i:=6) (v:=.tuple #[.agg #[.string xo,.string xn,.int .i64 (xk:Nat),.int .i64 xN,.int .i64 (xp:Nat),.slice sa sm sc],.bool (atM l1 nm).isSome]) (d:=33) rfl rfl (by kernel_rfl) (by kernel_rfl) (by kernel_rfl) (fun _ _ _ h=>h) (Or.inl ⟨by rfl,?_⟩) hHeld ?_
 ·(intro W hW;(try dsimp only at hW);have c4:=lookM2 W b1 nm _ (S3.out.next hW).m1 umN zNode;rw [H1.out] at c4;go_simp)
 try simp only [Act.put,List.setIfInBounds_toArray,List.set_cons_zero,List.set_cons_succ]
 refine take2 rfl (i:=7) (v:=.tuple #[.agg #[.string xo,.string xn,.int .i64 (xk:Nat),.int .i64 xN,.int .i64 (xp:Nat),.slice sa sm sc],.bool (atM l1 nm).isSome]) (d:=26) rfl rfl (by kernel_rfl) (by kernel_rfl) (by kernel_rfl) (fun _ _ _ h=>h) (Or.inl ⟨by rfl,?_⟩) hHeld ?_
 ·(intro W hW;(try dsimp only at hW);go_simp)
 try simp only [Act.put,List.setIfInBounds_toArray,List.set_cons_zero,List.set_cons_succ]
 refine take2 rfl (i:=8) (v:=.agg #[.string xo,.string xn,.int .i64 (xk:Nat),.int .i64 xN,.int .i64 (xp:Nat),.slice sa sm sc]) (d:=34) rfl rfl (by kernel_rfl) (by kernel_rfl) (by kernel_rfl) (fun _ _ _ h=>h) (Or.inl ⟨by rfl,?_⟩) hHeld ?_
 ·(intro W hW;(try dsimp only at hW);go_simp)
 try simp only [Act.put,List.setIfInBounds_toArray,List.set_cons_zero,List.set_cons_succ]
 refine take2 rfl (i:=9) (v:=.bool (atM l1 nm).isSome) (d:=35) rfl rfl (by kernel_rfl) (by kernel_rfl) (by kernel_rfl) (fun _ _ _ h=>h) (Or.inl ⟨by rfl,?_⟩) hHeld ?_
 ·(intro W hW;(try dsimp only at hW);go_simp)
 try simp only [Act.put,List.setIfInBounds_toArray,List.set_cons_zero,List.set_cons_succ]
 have BZ:=hid (show Below w3.heap.size w3 w3.drew from (Below.refl _ _).drew)
 generalize w3.drew=wz at *
 have BA:=hid (nextB BZ.out (show Below wz.heap.size wz (wz.alloc (.cells #[.string ⟨#[]⟩,.string ⟨#[]⟩,.int .i64 0,.int .i64 0,.int .i64 0,.slice none 0 0] 26)) from (Below.refl _ _).alloc (Nat.le_refl _) _))
 have HB:=hid (B6.new wz 26 (.string ⟨#[]⟩) (.string ⟨#[]⟩) (.int .i64 0) (.int .i64 0) (.int .i64 0) (.slice none 0 0))
 have SZ:=hid BZ.out.size
 refine wpAnyH_ready (rs:=[10]) (by kernel_rfl) (by simp) ?_
 refine cons2 rfl rfl (fun K9 hK=>?_)
 go_simp
 refine hK.out _ _ BA.out (fun hX=>?_)
 clear hK K9 hHeld
 have hHeld:=hX
 clear hX
 try simp only [Act.put,List.setIfInBounds_toArray,List.set_cons_zero,List.set_cons_succ]
 generalize World.alloc wz _=w4 at *
 have BS:=hid (Below.put6Y BA.out (q:=wz.heap.size) SZ.out (.string xo) (.string xn) (.int .i64 (xk:Nat)) (.int .i64 xN) (.int .i64 (xp:Nat)) (.slice sa sm sc))
 obtain ⟨g0,g1,g2,g3,g4,g5,gz⟩:=HB.out
 generalize wz.heap.size=r at *
 refine wpAnyH_ready (rs:=[11]) (by kernel_rfl) (by simp) ?_
 refine cons2 rfl rfl (fun K9 hK=>?_)
 go_simp
 refine hK.out _ _ BS.out (fun hX=>?_)
 clear hK K9 hHeld
 have hHeld:=hX
 clear hX
 try simp only [Act.put,List.setIfInBounds_toArray,List.set_cons_zero,List.set_cons_succ]
 clear g0 g1 g2 g3 g4 g5 gz
 generalize World.setCell _ ⟨r,5,none⟩ _=w5 at *
 refine take2 rfl (i:=12) (v:=.bool (atM l1 nm).isSome) (d:=7) rfl rfl (by kernel_rfl) (by kernel_rfl) (by kernel_rfl) (fun _ _ _ h=>h) (Or.inl ⟨by rfl,?_⟩) hHeld ?_
 ·(intro W hW;(try dsimp only at hW);go_simp)
 try simp only [Act.put,List.setIfInBounds_toArray,List.set_cons_zero,List.set_cons_succ]
 refine wpAnyH_done (by kernel_rfl) ?_ _
 have S5:=hid (S3.out.next BS.out)
 have X5:=hid (X3.out.next BS.out)
 have A5:=hid (belN A3.out BS.out (by have:=A3.out.size;have:=PQ.out;have:=LT.out;omega))
 clear S3 X3 A3 BS BA HB BZ SZ
 have x0:=X5.out.c0
 cases qs:(atM l0 nm).isSome with
 | true =>
  have RF:=hid (show l0=R9 from by rw [← RH.out,qs];rfl)
  go_wp2_with fail
  go_returns
  exact ⟨rfl,by rw [← RF.out];exact S5.out,A5.out⟩
 | false =>
  have RF:=hid (show setM l0 nm (.int .i64 (kd:Nat))=R9 from by rw [← RH.out,qs];rfl)
  go_upto_region 7 with fail
  clear x0
  refine wp_region_held_drew (S:=fun W=>W.cell? ⟨p,0,none⟩=some (.map (some b0))∧W.cell? ⟨w.heap.size,1,none⟩=some (.string nm)∧W.cell? ⟨w.heap.size,2,none⟩=some (.int .i64 (kd:Nat))) (by kernel_rfl) ⟨S5.out.bx.c0,X5.out.c1,X5.out.c2⟩ (fun hHeld=>?_)
  refine take2 rfl (i:=0) (v:=.pointer (some ⟨p,0,none⟩)) (d:=64) rfl rfl (by kernel_rfl) (by kernel_rfl) (by kernel_rfl) (fun _ _ _ h=>h) (Or.inl ⟨by rfl,?_⟩) hHeld ?_
  ·(intro W hW;(try dsimp only at hW);go_simp)
  try simp only [Act.put,List.setIfInBounds_toArray,List.set_cons_zero,List.set_cons_succ]
  refine take2 rfl (i:=1) (v:=.pointer (some ⟨p,0,none⟩)) (d:=65) rfl rfl (by kernel_rfl) (by kernel_rfl) (by kernel_rfl) (fun _ _ _ h=>h) (Or.inl ⟨by rfl,?_⟩) hHeld ?_
  ·(intro W hW;(try dsimp only at hW);go_simp)
  try simp only [Act.put,List.setIfInBounds_toArray,List.set_cons_zero,List.set_cons_succ]
  refine take2 rfl (i:=2) (v:=.pointer (some ⟨p,0,none⟩)) (d:=66) rfl rfl (by kernel_rfl) (by kernel_rfl) (by kernel_rfl) (fun _ _ _ h=>h) (Or.inl ⟨by rfl,?_⟩) hHeld ?_
  ·(intro W hW;(try dsimp only at hW);go_simp)
  try simp only [Act.put,List.setIfInBounds_toArray,List.set_cons_zero,List.set_cons_succ]
  refine take2 rfl (i:=3) (v:=.map (some b0)) (d:=67) rfl rfl (by kernel_rfl) (by kernel_rfl) (by kernel_rfl) (fun _ _ _ h=>h) (Or.inl ⟨by rfl,?_⟩) hHeld ?_
  ·(intro W hW;(try dsimp only at hW);have c4:=hW.1;go_simp)
  try simp only [Act.put,List.setIfInBounds_toArray,List.set_cons_zero,List.set_cons_succ]
  refine take2 rfl (i:=4) (v:=.pointer (some ⟨w.heap.size,1,none⟩)) (d:=68) rfl rfl (by kernel_rfl) (by kernel_rfl) (by kernel_rfl) (fun _ _ _ h=>h) (Or.inl ⟨by rfl,?_⟩) hHeld ?_
  ·(intro W hW;(try dsimp only at hW);go_simp)
  try simp only [Act.put,List.setIfInBounds_toArray,List.set_cons_zero,List.set_cons_succ]
  refine take2 rfl (i:=5) (v:=.string nm) (d:=69) rfl rfl (by kernel_rfl) (by kernel_rfl) (by kernel_rfl) (fun _ _ _ h=>h) (Or.inl ⟨by rfl,?_⟩) hHeld ?_
  ·(intro W hW;(try dsimp only at hW);have c4:=hW.2.1;go_simp)
  try simp only [Act.put,List.setIfInBounds_toArray,List.set_cons_zero,List.set_cons_succ]
  refine take2 rfl (i:=6) (v:=.pointer (some ⟨w.heap.size,2,none⟩)) (d:=70) rfl rfl (by kernel_rfl) (by kernel_rfl) (by kernel_rfl) (fun _ _ _ h=>h) (Or.inl ⟨by rfl,?_⟩) hHeld ?_
  ·(intro W hW;(try dsimp only at hW);go_simp)
  try simp only [Act.put,List.setIfInBounds_toArray,List.set_cons_zero,List.set_cons_succ]
  refine take2 rfl (i:=7) (v:=.int .i64 (kd:Nat)) (d:=71) rfl rfl (by kernel_rfl) (by kernel_rfl) (by kernel_rfl) (fun _ _ _ h=>h) (Or.inl ⟨by rfl,?_⟩) hHeld ?_
  ·(intro W hW;(try dsimp only at hW);have c4:=hW.2.2;go_simp)
  try simp only [Act.put,List.setIfInBounds_toArray,List.set_cons_zero,List.set_cons_succ]
  have D5:=hid (show Below w5.heap.size w5 w5.drew from (Below.refl _ _).drew)
  generalize w5.drew=wy at *
  have SY:=hid (S5.out.next D5.out)
  have XY:=hid (X5.out.next D5.out)
  have AY:=hid (belN A5.out D5.out (by have:=A5.out.size;have:=PQ.out;have:=LT.out;omega))
  obtain ⟨w6,r6,sm6,g6⟩:=SY.out.st0 nm (.int .i64 (kd:Nat))
  have S6:=hid sm6
  have X6:=hid (XY.out.grown g6 (fun e=>by injection e with e;have:=PQ.out;have:=LT.out;omega))
  have A6:=hid (belG AY.out g6 (by have:=LT.out;omega) (by have:=AY.out.size;have:=PQ.out;have:=LT.out;omega))
  clear sm6 g6
  refine wpAnyH_ready (rs:=[8]) (by kernel_rfl) (by simp) ?_
  refine cons2 rfl rfl (fun K9 hK=>?_)
  go_simp
  go_wp2_with fail
  refine hK.out _ _ ⟨S6.out.bx.c0,X6.out.c1,X6.out.c2⟩ (fun hX=>?_)
  clear hK K9 hHeld
  have hHeld:=hX
  clear hX
  try simp only [Act.put,List.setIfInBounds_toArray,List.set_cons_zero,List.set_cons_succ]
  refine wpAnyH_done (by kernel_rfl) ?_ _
  go_wp2_with fail
  go_returns
  exact ⟨rfl,by rw [← RF.out];exact S6.out,A6.out⟩
set_option maxRecDepth 100000 in
set_option maxHeartbeats 8000000 in
theorem declare_tab {w:World} {b0 b1 b2 b3 b4 p:Nat} {l0 l1 l2 l3 l4:List (ByteArray × Value)} {f:Nat} (h:Sm w b0 b1 b2 b3 b4 p l0 l1 l2 l3 l4 f) (nm:ByteArray) (kd:Nat) (n:Int) (pl:Nat) (va:Option Addr) (vm vc:Nat) (c:Nat) (hc:(atM l2 nm).getD (.int .i64 0)=.int .i64 (c:Nat)) (hcb:c≤10000) (v0:Nat) (h0:(atM l0 nm).getD (.int .i64 0)=.int .i64 (v0:Nat)) (xo xn:ByteArray) (xk:Nat) (xN:Int) (xp:Nat) (sa:Option Addr) (sm sc:Nat) (h1:(atM l1 nm).getD (.agg #[.string ⟨#[]⟩,.string ⟨#[]⟩,.int .i64 0,.int .i64 0,.int .i64 0,.slice none 0 0])=.agg #[.string xo,.string xn,.int .i64 (xk:Nat),.int .i64 xN,.int .i64 (xp:Nat),.slice sa sm sc]) :
  Calls Tryz.prog 185 #[.pointer (some ⟨p,0,none⟩),.agg #[.string ⟨#[116,97,98,108,101]⟩,.string nm,.int .i64 (kd:Nat),.int .i64 n,.int .i64 (pl:Nat),.slice va vm vc]] w fun e w'=>e=.returned (.tuple #[])∧Sm w' b0 b1 b2 b3 b4 p l0 (if (atM l1 nm).isSome=true then l1 else setM l1 nm (.agg #[.string ⟨#[116,97,98,108,101]⟩,.string nm,.int .i64 (kd:Nat),.int .i64 n,.int .i64 (pl:Nat),.slice va vm vc])) (setM l2 nm (.int .i64 ((c:Int)+1))) l3 l4 f∧Below b0 w w':=by
 have B1:=hid (show Below w.heap.size w (w.alloc (.cells #[.string ⟨#[116,97,98,108,101]⟩,.string nm,.int .i64 (kd:Nat),.int .i64 n,.int .i64 (pl:Nat),.slice va vm vc] 26)) from (Below.refl _ _).alloc (Nat.le_refl _) _)
 have X1:=hid (B6.new w 26 (.string ⟨#[116,97,98,108,101]⟩) (.string nm) (.int .i64 (kd:Nat)) (.int .i64 n) (.int .i64 (pl:Nat)) (.slice va vm vc))
 have S1:=hid (h.next B1.out)
 have LT:=hid h.lt
 have PQ:=hid h.bx.lt
 have HC:=hid hc
 have H0:=hid h0
 have H1:=hid h1
 have cb:(c:Int)≤10000:=by omega
 have cw:IntKind.i64.wrap ((c:Int)+1)=(c:Int)+1:=by go_arith
 have A1:=hid (show Below b0 w (w.alloc (.cells #[.string ⟨#[116,97,98,108,101]⟩,.string nm,.int .i64 (kd:Nat),.int .i64 n,.int .i64 (pl:Nat),.slice va vm vc] 26)) from B1.out.mono (by have:=h.bx.lt;have:=h.lt;omega))
 obtain ⟨R9,hR⟩:∃ R9,(if (atM l1 nm).isSome=true then l1 else setM l1 nm (.agg #[.string ⟨#[116,97,98,108,101]⟩,.string nm,.int .i64 (kd:Nat),.int .i64 n,.int .i64 (pl:Nat),.slice va vm vc]))=R9:=⟨_,rfl⟩
 have RH:=hid hR
 rw [hR]
 clear h hc h0 h1 hcb hR
 go_enter Tryz.func185,Tryz.ntmps185
 go_upto_region 1 with fail
 generalize World.alloc w _=w1 at *
 have c2:=S1.out.bx.c2
 have y1:=X1.out.c1
 refine wp_region_held_drew (S:=fun W=>W.cell? ⟨p,2,none⟩=some (.map (some b2))∧W.cell? ⟨w.heap.size,1,none⟩=some (.string nm)) (by kernel_rfl) ⟨c2,y1⟩ (fun hHeld=>?_)
 refine take2 rfl (i:=0) (v:=.pointer (some ⟨p,0,none⟩)) (d:=8) rfl rfl (by kernel_rfl) (by kernel_rfl) (by kernel_rfl) (fun _ _ _ h=>h) (Or.inl ⟨by rfl,?_⟩) hHeld ?_
 ·(intro W hW;(try dsimp only at hW);go_simp)
 try simp only [Act.put,List.setIfInBounds_toArray,List.set_cons_zero,List.set_cons_succ]
 refine take2 rfl (i:=1) (v:=.pointer (some ⟨p,0,none⟩)) (d:=9) rfl rfl (by kernel_rfl) (by kernel_rfl) (by kernel_rfl) (fun _ _ _ h=>h) (Or.inl ⟨by rfl,?_⟩) hHeld ?_
 ·(intro W hW;(try dsimp only at hW);go_simp)
 try simp only [Act.put,List.setIfInBounds_toArray,List.set_cons_zero,List.set_cons_succ]
 refine take2 rfl (i:=2) (v:=.pointer (some ⟨p,2,none⟩)) (d:=10) rfl rfl (by kernel_rfl) (by kernel_rfl) (by kernel_rfl) (fun _ _ _ h=>h) (Or.inl ⟨by rfl,?_⟩) hHeld ?_
 ·(intro W hW;(try dsimp only at hW);go_simp)
 try simp only [Act.put,List.setIfInBounds_toArray,List.set_cons_zero,List.set_cons_succ]
 refine take2 rfl (i:=3) (v:=.map (some b2)) (d:=11) rfl rfl (by kernel_rfl) (by kernel_rfl) (by kernel_rfl) (fun _ _ _ h=>h) (Or.inl ⟨by rfl,?_⟩) hHeld ?_
 ·(intro W hW;(try dsimp only at hW);have c4:=hW.1;go_simp)
 try simp only [Act.put,List.setIfInBounds_toArray,List.set_cons_zero,List.set_cons_succ]
 refine take2 rfl (i:=4) (v:=.pointer (some ⟨w.heap.size,1,none⟩)) (d:=12) rfl rfl (by kernel_rfl) (by kernel_rfl) (by kernel_rfl) (fun _ _ _ h=>h) (Or.inl ⟨by rfl,?_⟩) hHeld ?_
 ·(intro W hW;(try dsimp only at hW);go_simp)
 try simp only [Act.put,List.setIfInBounds_toArray,List.set_cons_zero,List.set_cons_succ]
 refine take2 rfl (i:=5) (v:=.string nm) (d:=13) rfl rfl (by kernel_rfl) (by kernel_rfl) (by kernel_rfl) (fun _ _ _ h=>h) (Or.inl ⟨by rfl,?_⟩) hHeld ?_
 ·(intro W hW;(try dsimp only at hW);have c4:=hW.2;go_simp)
 try simp only [Act.put,List.setIfInBounds_toArray,List.set_cons_zero,List.set_cons_succ]
 clear c2 y1
 have D1:=hid (show Below w1.heap.size w1 w1.drew from (Below.refl _ _).drew)
 generalize w1.drew=wz at *
 have SZ:=hid (S1.out.next D1.out)
 have XZ:=hid (X1.out.next D1.out)
 have AZ:=hid (belN A1.out D1.out (by have:=A1.out.size;have:=PQ.out;have:=LT.out;omega))
 have k2:=lookM1 wz b2 nm _ SZ.out.m2 umI zInt
 rw [HC.out] at k2
 refine wpAnyH_ready (rs:=[6]) (by kernel_rfl) (by simp) ?_
 refine cons2 rfl rfl (fun K9 hK=>?_)
 go_simp
 refine hK.out _ _ ⟨SZ.out.bx.c2,XZ.out.c1⟩ (fun hX=>?_)
 clear hK K9 hHeld
 have hHeld:=hX
 clear hX
 try simp only [Act.put,List.setIfInBounds_toArray,List.set_cons_zero,List.set_cons_succ]
 refine take2 rfl (i:=7) (v:=.int .i64 ((c:Int)+1)) (d:=15) rfl rfl (by kernel_rfl) (by kernel_rfl) (by kernel_rfl) (fun _ _ _ h=>h) (Or.inl ⟨by rfl,?_⟩) hHeld ?_
 ·(intro W hW;(try dsimp only at hW);go_simp)
 try simp only [Act.put,List.setIfInBounds_toArray,List.set_cons_zero,List.set_cons_succ]
 clear k2
 obtain ⟨w2,r2,sm2,g2⟩:=SZ.out.st2 nm (.int .i64 ((c:Int)+1))
 have S2:=hid sm2
 have X2:=hid (XZ.out.grown g2 (fun e=>by injection e with e;have:=PQ.out;have:=LT.out;omega))
 have A2:=hid (belG AZ.out g2 (by have:=LT.out;omega) (by have:=AZ.out.size;have:=PQ.out;have:=LT.out;omega))
 clear sm2 g2
 refine wpAnyH_ready (rs:=[8]) (by kernel_rfl) (by simp) ?_
 refine cons2 rfl rfl (fun K9 hK=>?_)
 go_simp
 go_wp2_with fail
 refine hK.out _ _ ⟨S2.out.bx.c2,X2.out.c1⟩ (fun hX=>?_)
 clear hK K9 hHeld
 have hHeld:=hX
 clear hX
 try simp only [Act.put,List.setIfInBounds_toArray,List.set_cons_zero,List.set_cons_succ]
 refine wpAnyH_done (by kernel_rfl) ?_ _
 clear S1 X1 A1 SZ XZ AZ r2 D1
 go_upto_region 2 with fail
 refine wp_region_held_drew (S:=fun W=>Below w2.heap.size w2 W) (by kernel_rfl) (Below.refl _ _).drew (fun hHeld=>?_)
 refine take2 rfl (i:=0) (v:=.pointer (some ⟨p,0,none⟩)) (d:=17) rfl rfl (by kernel_rfl) (by kernel_rfl) (by kernel_rfl) (fun _ _ _ h=>h) (Or.inl ⟨by rfl,?_⟩) hHeld ?_
 ·(intro W hW;(try dsimp only at hW);go_simp)
 try simp only [Act.put,List.setIfInBounds_toArray,List.set_cons_zero,List.set_cons_succ]
 refine take2 rfl (i:=1) (v:=.pointer (some ⟨p,0,none⟩)) (d:=18) rfl rfl (by kernel_rfl) (by kernel_rfl) (by kernel_rfl) (fun _ _ _ h=>h) (Or.inl ⟨by rfl,?_⟩) hHeld ?_
 ·(intro W hW;(try dsimp only at hW);go_simp)
 try simp only [Act.put,List.setIfInBounds_toArray,List.set_cons_zero,List.set_cons_succ]
 refine take2 rfl (i:=2) (v:=.pointer (some ⟨p,0,none⟩)) (d:=19) rfl rfl (by kernel_rfl) (by kernel_rfl) (by kernel_rfl) (fun _ _ _ h=>h) (Or.inl ⟨by rfl,?_⟩) hHeld ?_
 ·(intro W hW;(try dsimp only at hW);go_simp)
 try simp only [Act.put,List.setIfInBounds_toArray,List.set_cons_zero,List.set_cons_succ]
 refine take2 rfl (i:=3) (v:=.map (some b0)) (d:=20) rfl rfl (by kernel_rfl) (by kernel_rfl) (by kernel_rfl) (fun _ _ _ h=>h) (Or.inl ⟨by rfl,?_⟩) hHeld ?_
 ·(intro W hW;(try dsimp only at hW);have c4:=(S2.out.next hW).bx.c0;go_simp)
 try simp only [Act.put,List.setIfInBounds_toArray,List.set_cons_zero,List.set_cons_succ]
 refine take2 rfl (i:=4) (v:=.pointer (some ⟨w.heap.size,1,none⟩)) (d:=21) rfl rfl (by kernel_rfl) (by kernel_rfl) (by kernel_rfl) (fun _ _ _ h=>h) (Or.inl ⟨by rfl,?_⟩) hHeld ?_
 ·(intro W hW;(try dsimp only at hW);go_simp)
 try simp only [Act.put,List.setIfInBounds_toArray,List.set_cons_zero,List.set_cons_succ]
 refine take2 rfl (i:=5) (v:=.string nm) (d:=22) rfl rfl (by kernel_rfl) (by kernel_rfl) (by kernel_rfl) (fun _ _ _ h=>h) (Or.inl ⟨by rfl,?_⟩) hHeld ?_
 ·(intro W hW;(try dsimp only at hW);have c4:=(X2.out.next hW).c1;go_simp)
 try simp only [Act.put,List.setIfInBounds_toArray,List.set_cons_zero,List.set_cons_succ]
 refine take2 rfl (i:=6) (v:=.tuple #[.int .i64 (v0:Nat),.bool (atM l0 nm).isSome]) (d:=23) rfl rfl (by kernel_rfl) (by kernel_rfl) (by kernel_rfl) (fun _ _ _ h=>h) (Or.inl ⟨by rfl,?_⟩) hHeld ?_
 ·(intro W hW;(try dsimp only at hW);have c4:=lookM2 W b0 nm _ (S2.out.next hW).m0 umK zKind;rw [H0.out] at c4;go_simp)
 try simp only [Act.put,List.setIfInBounds_toArray,List.set_cons_zero,List.set_cons_succ]
 refine take2 rfl (i:=7) (v:=.tuple #[.int .i64 (v0:Nat),.bool (atM l0 nm).isSome]) (d:=16) rfl rfl (by kernel_rfl) (by kernel_rfl) (by kernel_rfl) (fun _ _ _ h=>h) (Or.inl ⟨by rfl,?_⟩) hHeld ?_
 ·(intro W hW;(try dsimp only at hW);go_simp)
 try simp only [Act.put,List.setIfInBounds_toArray,List.set_cons_zero,List.set_cons_succ]
 refine take2 rfl (i:=8) (v:=.int .i64 (v0:Nat)) (d:=24) rfl rfl (by kernel_rfl) (by kernel_rfl) (by kernel_rfl) (fun _ _ _ h=>h) (Or.inl ⟨by rfl,?_⟩) hHeld ?_
 ·(intro W hW;(try dsimp only at hW);go_simp)
 try simp only [Act.put,List.setIfInBounds_toArray,List.set_cons_zero,List.set_cons_succ]
 refine take2 rfl (i:=9) (v:=.bool (atM l0 nm).isSome) (d:=25) rfl rfl (by kernel_rfl) (by kernel_rfl) (by kernel_rfl) (fun _ _ _ h=>h) (Or.inl ⟨by rfl,?_⟩) hHeld ?_
 ·(intro W hW;(try dsimp only at hW);go_simp)
 try simp only [Act.put,List.setIfInBounds_toArray,List.set_cons_zero,List.set_cons_succ]
 refine take2 rfl (i:=10) (v:=.int .i64 (v0:Nat)) (d:=4) rfl rfl (by kernel_rfl) (by kernel_rfl) (by kernel_rfl) (fun _ _ _ h=>h) (Or.inl ⟨by rfl,?_⟩) hHeld ?_
 ·(intro W hW;(try dsimp only at hW);go_simp)
 try simp only [Act.put,List.setIfInBounds_toArray,List.set_cons_zero,List.set_cons_succ]
 refine take2 rfl (i:=11) (v:=.bool (atM l0 nm).isSome) (d:=5) rfl rfl (by kernel_rfl) (by kernel_rfl) (by kernel_rfl) (fun _ _ _ h=>h) (Or.inl ⟨by rfl,?_⟩) hHeld ?_
 ·(intro W hW;(try dsimp only at hW);go_simp)
 try simp only [Act.put,List.setIfInBounds_toArray,List.set_cons_zero,List.set_cons_succ]
 refine wpAnyH_done (by kernel_rfl) ?_ _
 have D2:=hid (show Below w2.heap.size w2 w2.drew from (Below.refl _ _).drew)
 generalize w2.drew=w3 at *
 have S3:=hid (S2.out.next D2.out)
 have X3:=hid (X2.out.next D2.out)
 have A3:=hid (belN A2.out D2.out (by have:=A2.out.size;have:=PQ.out;have:=LT.out;omega))
 clear S2 X2 A2 D2
 go_upto_region 3 with fail
 refine wp_region_held_drew (S:=fun W=>Below w3.heap.size w3 W) (by kernel_rfl) (Below.refl _ _).drew (fun hHeld=>?_)
 refine take2 rfl (i:=0) (v:=.pointer (some ⟨p,0,none⟩)) (d:=27) rfl rfl (by kernel_rfl) (by kernel_rfl) (by kernel_rfl) (fun _ _ _ h=>h) (Or.inl ⟨by rfl,?_⟩) hHeld ?_
 ·(intro W hW;(try dsimp only at hW);go_simp)
 try simp only [Act.put,List.setIfInBounds_toArray,List.set_cons_zero,List.set_cons_succ]
 refine take2 rfl (i:=1) (v:=.pointer (some ⟨p,0,none⟩)) (d:=28) rfl rfl (by kernel_rfl) (by kernel_rfl) (by kernel_rfl) (fun _ _ _ h=>h) (Or.inl ⟨by rfl,?_⟩) hHeld ?_
 ·(intro W hW;(try dsimp only at hW);go_simp)
 try simp only [Act.put,List.setIfInBounds_toArray,List.set_cons_zero,List.set_cons_succ]
 refine take2 rfl (i:=2) (v:=.pointer (some ⟨p,1,none⟩)) (d:=29) rfl rfl (by kernel_rfl) (by kernel_rfl) (by kernel_rfl) (fun _ _ _ h=>h) (Or.inl ⟨by rfl,?_⟩) hHeld ?_
 ·(intro W hW;(try dsimp only at hW);go_simp)
 try simp only [Act.put,List.setIfInBounds_toArray,List.set_cons_zero,List.set_cons_succ]
 refine take2 rfl (i:=3) (v:=.map (some b1)) (d:=30) rfl rfl (by kernel_rfl) (by kernel_rfl) (by kernel_rfl) (fun _ _ _ h=>h) (Or.inl ⟨by rfl,?_⟩) hHeld ?_
 ·(intro W hW;(try dsimp only at hW);have c4:=(S3.out.next hW).bx.c1;go_simp)
 try simp only [Act.put,List.setIfInBounds_toArray,List.set_cons_zero,List.set_cons_succ]
 refine take2 rfl (i:=4) (v:=.pointer (some ⟨w.heap.size,1,none⟩)) (d:=31) rfl rfl (by kernel_rfl) (by kernel_rfl) (by kernel_rfl) (fun _ _ _ h=>h) (Or.inl ⟨by rfl,?_⟩) hHeld ?_
 ·(intro W hW;(try dsimp only at hW);go_simp)
 try simp only [Act.put,List.setIfInBounds_toArray,List.set_cons_zero,List.set_cons_succ]
 refine take2 rfl (i:=5) (v:=.string nm) (d:=32) rfl rfl (by kernel_rfl) (by kernel_rfl) (by kernel_rfl) (fun _ _ _ h=>h) (Or.inl ⟨by rfl,?_⟩) hHeld ?_
 ·(intro W hW;(try dsimp only at hW);have c4:=(X3.out.next hW).c1;go_simp)
 try simp only [Act.put,List.setIfInBounds_toArray,List.set_cons_zero,List.set_cons_succ]
 refine take2 rfl (i:=6) (v:=.tuple #[.agg #[.string xo,.string xn,.int .i64 (xk:Nat),.int .i64 xN,.int .i64 (xp:Nat),.slice sa sm sc],.bool (atM l1 nm).isSome]) (d:=33) rfl rfl (by kernel_rfl) (by kernel_rfl) (by kernel_rfl) (fun _ _ _ h=>h) (Or.inl ⟨by rfl,?_⟩) hHeld ?_
 ·(intro W hW;(try dsimp only at hW);have c4:=lookM2 W b1 nm _ (S3.out.next hW).m1 umN zNode;rw [H1.out] at c4;go_simp)
 try simp only [Act.put,List.setIfInBounds_toArray,List.set_cons_zero,List.set_cons_succ]
 refine take2 rfl (i:=7) (v:=.tuple #[.agg #[.string xo,.string xn,.int .i64 (xk:Nat),.int .i64 xN,.int .i64 (xp:Nat),.slice sa sm sc],.bool (atM l1 nm).isSome]) (d:=26) rfl rfl (by kernel_rfl) (by kernel_rfl) (by kernel_rfl) (fun _ _ _ h=>h) (Or.inl ⟨by rfl,?_⟩) hHeld ?_
 ·(intro W hW;(try dsimp only at hW);go_simp)
 try simp only [Act.put,List.setIfInBounds_toArray,List.set_cons_zero,List.set_cons_succ]
 refine take2 rfl (i:=8) (v:=.agg #[.string xo,.string xn,.int .i64 (xk:Nat),.int .i64 xN,.int .i64 (xp:Nat),.slice sa sm sc]) (d:=34) rfl rfl (by kernel_rfl) (by kernel_rfl) (by kernel_rfl) (fun _ _ _ h=>h) (Or.inl ⟨by rfl,?_⟩) hHeld ?_
 ·(intro W hW;(try dsimp only at hW);go_simp)
 try simp only [Act.put,List.setIfInBounds_toArray,List.set_cons_zero,List.set_cons_succ]
 refine take2 rfl (i:=9) (v:=.bool (atM l1 nm).isSome) (d:=35) rfl rfl (by kernel_rfl) (by kernel_rfl) (by kernel_rfl) (fun _ _ _ h=>h) (Or.inl ⟨by rfl,?_⟩) hHeld ?_
 ·(intro W hW;(try dsimp only at hW);go_simp)
 try simp only [Act.put,List.setIfInBounds_toArray,List.set_cons_zero,List.set_cons_succ]
 have BZ:=hid (show Below w3.heap.size w3 w3.drew from (Below.refl _ _).drew)
 generalize w3.drew=wz at *
 have BA:=hid (nextB BZ.out (show Below wz.heap.size wz (wz.alloc (.cells #[.string ⟨#[]⟩,.string ⟨#[]⟩,.int .i64 0,.int .i64 0,.int .i64 0,.slice none 0 0] 26)) from (Below.refl _ _).alloc (Nat.le_refl _) _))
 have HB:=hid (B6.new wz 26 (.string ⟨#[]⟩) (.string ⟨#[]⟩) (.int .i64 0) (.int .i64 0) (.int .i64 0) (.slice none 0 0))
 have SZ:=hid BZ.out.size
 refine wpAnyH_ready (rs:=[10]) (by kernel_rfl) (by simp) ?_
 refine cons2 rfl rfl (fun K9 hK=>?_)
 go_simp
 refine hK.out _ _ BA.out (fun hX=>?_)
 clear hK K9 hHeld
 have hHeld:=hX
 clear hX
 try simp only [Act.put,List.setIfInBounds_toArray,List.set_cons_zero,List.set_cons_succ]
 generalize World.alloc wz _=w4 at *
 have BS:=hid (Below.put6Y BA.out (q:=wz.heap.size) SZ.out (.string xo) (.string xn) (.int .i64 (xk:Nat)) (.int .i64 xN) (.int .i64 (xp:Nat)) (.slice sa sm sc))
 obtain ⟨g0,g1,g2,g3,g4,g5,gz⟩:=HB.out
 generalize wz.heap.size=r at *
 refine wpAnyH_ready (rs:=[11]) (by kernel_rfl) (by simp) ?_
 refine cons2 rfl rfl (fun K9 hK=>?_)
 go_simp
 refine hK.out _ _ BS.out (fun hX=>?_)
 clear hK K9 hHeld
 have hHeld:=hX
 clear hX
 try simp only [Act.put,List.setIfInBounds_toArray,List.set_cons_zero,List.set_cons_succ]
 clear g0 g1 g2 g3 g4 g5 gz
 generalize World.setCell _ ⟨r,5,none⟩ _=w5 at *
 refine take2 rfl (i:=12) (v:=.bool (atM l1 nm).isSome) (d:=7) rfl rfl (by kernel_rfl) (by kernel_rfl) (by kernel_rfl) (fun _ _ _ h=>h) (Or.inl ⟨by rfl,?_⟩) hHeld ?_
 ·(intro W hW;(try dsimp only at hW);go_simp)
 try simp only [Act.put,List.setIfInBounds_toArray,List.set_cons_zero,List.set_cons_succ]
 refine wpAnyH_done (by kernel_rfl) ?_ _
 have S5:=hid (S3.out.next BS.out)
 have X5:=hid (X3.out.next BS.out)
 have A5:=hid (belN A3.out BS.out (by have:=A3.out.size;have:=PQ.out;have:=LT.out;omega))
 clear S3 X3 A3 BS BA HB BZ SZ
 have x0:=X5.out.c0
 cases qs:(atM l1 nm).isSome with
 | true =>
  have RF:=hid (show l1=R9 from by rw [← RH.out,qs];rfl)
  go_wp2_with fail
  go_returns
  exact ⟨rfl,by rw [← RF.out];exact S5.out,A5.out⟩
 | false =>
  have RF:=hid (show setM l1 nm (.agg #[.string ⟨#[116,97,98,108,101]⟩,.string nm,.int .i64 (kd:Nat),.int .i64 n,.int .i64 (pl:Nat),.slice va vm vc])=R9 from by rw [← RH.out,qs];rfl)
  go_upto_region 5 with fail
  clear x0
  refine wp_region_held_drew (S:=fun W=>W.cell? ⟨p,1,none⟩=some (.map (some b1))∧B6 W w.heap.size (.string ⟨#[116,97,98,108,101]⟩) (.string nm) (.int .i64 (kd:Nat)) (.int .i64 n) (.int .i64 (pl:Nat)) (.slice va vm vc)) (by kernel_rfl) ⟨S5.out.bx.c1,X5.out.next ((Below.refl _ _).drew)⟩ (fun hHeld=>?_)
  refine take2 rfl (i:=0) (v:=.pointer (some ⟨p,0,none⟩)) (d:=44) rfl rfl (by kernel_rfl) (by kernel_rfl) (by kernel_rfl) (fun _ _ _ h=>h) (Or.inl ⟨by rfl,?_⟩) hHeld ?_
  ·(intro W hW;(try dsimp only at hW);go_simp)
  try simp only [Act.put,List.setIfInBounds_toArray,List.set_cons_zero,List.set_cons_succ]
  refine take2 rfl (i:=1) (v:=.pointer (some ⟨p,0,none⟩)) (d:=45) rfl rfl (by kernel_rfl) (by kernel_rfl) (by kernel_rfl) (fun _ _ _ h=>h) (Or.inl ⟨by rfl,?_⟩) hHeld ?_
  ·(intro W hW;(try dsimp only at hW);go_simp)
  try simp only [Act.put,List.setIfInBounds_toArray,List.set_cons_zero,List.set_cons_succ]
  refine take2 rfl (i:=2) (v:=.pointer (some ⟨p,1,none⟩)) (d:=46) rfl rfl (by kernel_rfl) (by kernel_rfl) (by kernel_rfl) (fun _ _ _ h=>h) (Or.inl ⟨by rfl,?_⟩) hHeld ?_
  ·(intro W hW;(try dsimp only at hW);go_simp)
  try simp only [Act.put,List.setIfInBounds_toArray,List.set_cons_zero,List.set_cons_succ]
  refine take2 rfl (i:=3) (v:=.map (some b1)) (d:=47) rfl rfl (by kernel_rfl) (by kernel_rfl) (by kernel_rfl) (fun _ _ _ h=>h) (Or.inl ⟨by rfl,?_⟩) hHeld ?_
  ·(intro W hW;(try dsimp only at hW);have c4:=hW.1;go_simp)
  try simp only [Act.put,List.setIfInBounds_toArray,List.set_cons_zero,List.set_cons_succ]
  refine take2 rfl (i:=4) (v:=.pointer (some ⟨w.heap.size,1,none⟩)) (d:=48) rfl rfl (by kernel_rfl) (by kernel_rfl) (by kernel_rfl) (fun _ _ _ h=>h) (Or.inl ⟨by rfl,?_⟩) hHeld ?_
  ·(intro W hW;(try dsimp only at hW);go_simp)
  try simp only [Act.put,List.setIfInBounds_toArray,List.set_cons_zero,List.set_cons_succ]
  refine take2 rfl (i:=5) (v:=.string nm) (d:=49) rfl rfl (by kernel_rfl) (by kernel_rfl) (by kernel_rfl) (fun _ _ _ h=>h) (Or.inl ⟨by rfl,?_⟩) hHeld ?_
  ·(intro W hW;(try dsimp only at hW);have c4:=hW.2.c1;go_simp)
  try simp only [Act.put,List.setIfInBounds_toArray,List.set_cons_zero,List.set_cons_succ]
  refine take2 rfl (i:=6) (v:=.agg #[.string ⟨#[116,97,98,108,101]⟩,.string nm,.int .i64 (kd:Nat),.int .i64 n,.int .i64 (pl:Nat),.slice va vm vc]) (d:=50) rfl rfl (by kernel_rfl) (by kernel_rfl) (by kernel_rfl) (fun _ _ _ h=>h) (Or.inl ⟨by rfl,?_⟩) hHeld ?_
  ·(intro W hW;(try dsimp only at hW);obtain ⟨e0,e1,e2,e3,e4,e5,ez⟩:=hW.2;go_simp)
  try simp only [Act.put,List.setIfInBounds_toArray,List.set_cons_zero,List.set_cons_succ]
  have D5:=hid (show Below w5.heap.size w5 w5.drew from (Below.refl _ _).drew)
  generalize w5.drew=wy at *
  have SY:=hid (S5.out.next D5.out)
  have XY:=hid (X5.out.next D5.out)
  have AY:=hid (belN A5.out D5.out (by have:=A5.out.size;have:=PQ.out;have:=LT.out;omega))
  obtain ⟨w6,r6,sm6,g6⟩:=SY.out.st1 nm (.agg #[.string ⟨#[116,97,98,108,101]⟩,.string nm,.int .i64 (kd:Nat),.int .i64 n,.int .i64 (pl:Nat),.slice va vm vc])
  have S6:=hid sm6
  have X6:=hid (XY.out.grown g6 (fun e=>by injection e with e;have:=PQ.out;have:=LT.out;omega))
  have A6:=hid (belG AY.out g6 (by have:=LT.out;omega) (by have:=AY.out.size;have:=PQ.out;have:=LT.out;omega))
  clear sm6 g6
  refine wpAnyH_ready (rs:=[7]) (by kernel_rfl) (by simp) ?_
  refine cons2 rfl rfl (fun K9 hK=>?_)
  go_simp
  go_wp2_with fail
  refine hK.out _ _ ⟨S6.out.bx.c1,X6.out⟩ (fun hX=>?_)
  clear hK K9 hHeld
  have hHeld:=hX
  clear hX
  try simp only [Act.put,List.setIfInBounds_toArray,List.set_cons_zero,List.set_cons_succ]
  refine wpAnyH_done (by kernel_rfl) ?_ _
  go_wp2_with fail
  go_returns
  exact ⟨rfl,by rw [← RF.out];exact S6.out,A6.out⟩
theorem val_app (ks:List Tr) (d:Tr) (j:ByteArray):valK (ks ++ [d]) j=(valK ks j).or (if (isVal d.op && eqB d.name j)=true then some d.kind else none):=by
 unfold valK
 rw [List.find?_append]
 cases h:ks.find? (fun k=>isVal k.op && eqB k.name j) with
 | some t=>rfl
 | none =>
  simp only [Option.none_or,Option.map_none,List.find?_cons,List.find?_nil]
  cases isVal d.op && eqB d.name j <;> rfl
theorem tab_app (ks:List Tr) (d:Tr) (j:ByteArray):tabK (ks ++ [d]) j=(tabK ks j).or (if (isTab d.op && eqB d.name j)=true then some d else none):=by
 unfold tabK
 rw [List.find?_append]
 cases h:ks.find? (fun k=>isTab k.op && eqB k.name j) with
 | some t=>rfl
 | none =>
  simp only [Option.none_or,List.find?_cons,List.find?_nil]
  cases isTab d.op && eqB d.name j <;> rfl
theorem dec_app (ks:List Tr) (d:Tr) (j:ByteArray):decN (ks ++ [d]) j=decN ks j+(if j=d.name then 1 else 0):=by
 unfold decN
 rw [List.countP_append,List.countP_cons,List.countP_nil]
 by_cases c:j=d.name
 ·rw [if_pos c,if_pos (by rw [c];unfold eqB;simp)]
 ·rw [if_neg c,if_neg (fun h=>c (eqB_eqX h).symm)]
theorem eqB_self (a:ByteArray):eqB a a=true:=by unfold eqB;simp
theorem eqB_ne {a b:ByteArray} (h:b≠a):eqB a b=false:=by
 cases q:eqB a b with
 | false=>rfl
 | true=>exact absurd (eqB_eqX q).symm h
structure Spc (ks:List Tr) (l0 l1 l2:List (ByteArray × Value)):Prop where
 s0:∀ nm,atM l0 nm=(valK ks nm).map (fun k=>.int .i64 (k:Nat))
 s1:∀ nm,match tabK ks nm with | none=>atM l1 nm=none | some t=>∃ (sa:Option Addr) (sm sc:Nat),atM l1 nm=some (.agg #[.string t.op,.string t.name,.int .i64 (t.kind:Nat),.int .i64 t.n,.int .i64 (t.pl:Nat),.slice sa sm sc])
 s2:∀ nm,(atM l2 nm).getD (.int .i64 0)=.int .i64 (decN ks nm:Nat)
theorem Spc.cnt {ks:List Tr} {l0 l1 l2:List (ByteArray × Value)} (h:Spc ks l0 l1 l2) (d:Tr) (nm:ByteArray):(atM (setM l2 d.name (.int .i64 ((decN ks d.name:Int)+1))) nm).getD (.int .i64 0)=.int .i64 (decN (ks ++ [d]) nm:Nat):=by
 rw [at_set,dec_app]
 by_cases c:nm=d.name
 ·rw [if_pos c,if_pos c,c];simp
 ·rw [if_neg c,if_neg c,h.s2 nm];simp
theorem Spc.val {ks:List Tr} {l0 l1 l2:List (ByteArray × Value)} (h:Spc ks l0 l1 l2) (d:Tr) (hv:isVal d.op=true) (ht:isTab d.op=false):Spc (ks ++ [d]) (if (atM l0 d.name).isSome=true then l0 else setM l0 d.name (.int .i64 (d.kind:Nat))) l1 (setM l2 d.name (.int .i64 ((decN ks d.name:Int)+1))):=by
 refine ⟨fun j=>?_,fun j=>?_,fun j=>h.cnt d j⟩
 ·rw [val_app,hv,Bool.true_and]
  have e:=h.s0 d.name
  by_cases c:j=d.name
  ·subst c
   rw [eqB_self,if_pos rfl]
   cases q:valK ks d.name with
   | some k=>rw [q] at e;rw [e,if_pos (show ((some k).map (fun k=>Value.int .i64 (k:Nat))).isSome=true from rfl),e];rfl
   | none=>rw [q] at e;rw [e,if_neg (by simp),at_set,if_pos rfl];rfl
  ·rw [eqB_ne c,show (if false=true then some d.kind else none)=none from rfl,Option.or_none,← h.s0 j]
   cases (atM l0 d.name).isSome with
   | true=>rfl
   | false=>rw [if_neg (by simp),at_set,if_neg c]
 ·rw [tab_app,ht]
  simp only [Bool.false_and,Bool.false_eq_true,if_false,Option.or_none]
  exact h.s1 j
theorem Spc.tab {ks:List Tr} {l0 l1 l2:List (ByteArray × Value)} (h:Spc ks l0 l1 l2) (d:Tr) (hv:isVal d.op=false) (ht:isTab d.op=true) (va:Option Addr) (vm vc:Nat):Spc (ks ++ [d]) l0 (if (atM l1 d.name).isSome=true then l1 else setM l1 d.name (.agg #[.string d.op,.string d.name,.int .i64 (d.kind:Nat),.int .i64 d.n,.int .i64 (d.pl:Nat),.slice va vm vc])) (setM l2 d.name (.int .i64 ((decN ks d.name:Int)+1))):=by
 refine ⟨fun j=>?_,fun j=>?_,fun j=>h.cnt d j⟩
 ·rw [val_app,hv]
  simp only [Bool.false_and,Bool.false_eq_true,if_false,Option.or_none]
  exact h.s0 j
 ·rw [tab_app,ht,Bool.true_and]
  have e:=h.s1 d.name
  by_cases c:j=d.name
  ·subst c
   rw [eqB_self,if_pos rfl]
   cases q:tabK ks d.name with
   | some t =>
    rw [q] at e
    obtain ⟨sa,sm,sc,e⟩:=e
    show ∃ (sa:Option Addr) (sm sc:Nat),atM (if (atM l1 d.name).isSome=true then l1 else _) d.name=some (.agg #[.string t.op,.string t.name,.int .i64 (t.kind:Nat),.int .i64 t.n,.int .i64 (t.pl:Nat),.slice sa sm sc])
    rw [if_pos (show (atM l1 d.name).isSome=true from by rw [e];rfl)]
    exact ⟨sa,sm,sc,e⟩
   | none =>
    rw [q] at e
    show ∃ (sa:Option Addr) (sm sc:Nat),atM (if (atM l1 d.name).isSome=true then l1 else _) d.name=some (.agg #[.string d.op,.string d.name,.int .i64 (d.kind:Nat),.int .i64 d.n,.int .i64 (d.pl:Nat),.slice sa sm sc])
    rw [if_neg (show ¬ (atM l1 d.name).isSome=true from by rw [e];simp)]
    exact ⟨va,vm,vc,by rw [at_set,if_pos rfl]⟩
  ·rw [eqB_ne c,show (if false=true then some d else none)=none from rfl,Option.or_none]
   have e2:atM (if (atM l1 d.name).isSome=true then l1 else setM l1 d.name (.agg #[.string d.op,.string d.name,.int .i64 (d.kind:Nat),.int .i64 d.n,.int .i64 (d.pl:Nat),.slice va vm vc])) j=atM l1 j:=by
    cases (atM l1 d.name).isSome with
    | true=>rfl
    | false=>rw [if_neg (by simp),at_set,if_neg c]
   rw [e2]
   exact h.s1 j
theorem Scp.sm {w:World} {b0 b1 b2 b3 b4 p:Nat} {ks:List Tr} {be:List (ByteArray × Nat)} {loc:List ByteArray} {f:Nat} (h:Scp w b0 b1 b2 b3 b4 p ks be loc f):∃ l0 l1 l2 l3 l4,Sm w b0 b1 b2 b3 b4 p l0 l1 l2 l3 l4 f∧Spc ks l0 l1 l2∧(∀ nm,atM l3 nm=(besK be nm).map (fun k=>.int .i64 (k:Nat)))∧(∀ nm,(atM l4 nm).getD (.int .i64 0)=.int .i64 (cntK loc nm:Nat)):=by
 obtain ⟨l0,m0,s0⟩:=h.m0
 obtain ⟨l1,m1,s1⟩:=h.m1
 obtain ⟨l2,m2,s2⟩:=h.m2
 obtain ⟨l3,m3,s3⟩:=h.m3
 obtain ⟨l4,m4,s4⟩:=h.m4
 exact ⟨l0,l1,l2,l3,l4,⟨⟨h.c0,h.c1,h.c2,h.c3,h.c4,h.c5,h.fz⟩,m0,m1,m2,m3,m4,h.lt⟩,⟨s0,s1,s2⟩,s3,s4⟩
theorem Sm.scp {w:World} {b0 b1 b2 b3 b4 p:Nat} {ks:List Tr} {be:List (ByteArray × Nat)} {loc:List ByteArray} {f:Nat} {l0 l1 l2 l3 l4:List (ByteArray × Value)} (h:Sm w b0 b1 b2 b3 b4 p l0 l1 l2 l3 l4 f) (s:Spc ks l0 l1 l2) (s3:∀ nm,atM l3 nm=(besK be nm).map (fun k=>.int .i64 (k:Nat))) (s4:∀ nm,(atM l4 nm).getD (.int .i64 0)=.int .i64 (cntK loc nm:Nat)):Scp w b0 b1 b2 b3 b4 p ks be loc f :=
 ⟨h.bx.c0,h.bx.c1,h.bx.c2,h.bx.c3,h.bx.c4,h.bx.c5,h.bx.fz,⟨l0,h.m0,s.s0⟩,⟨l1,h.m1,s.s1⟩,⟨l2,h.m2,s.s2⟩,⟨l3,h.m3,s3⟩,⟨l4,h.m4,s4⟩,h.lt⟩
theorem declare_any {w:World} {b0 b1 b2 b3 b4 p:Nat} {ks:List Tr} {be:List (ByteArray × Nat)} {loc:List ByteArray} {f:Nat} (h:Scp w b0 b1 b2 b3 b4 p ks be loc f) (d:Tr) (hd:GD d) (hl:ks.length≤10000) (va:Option Addr) (vm vc:Nat) :
  Calls Tryz.prog 185 #[.pointer (some ⟨p,0,none⟩),.agg #[.string d.op,.string d.name,.int .i64 (d.kind:Nat),.int .i64 d.n,.int .i64 (d.pl:Nat),.slice va vm vc]] w fun e w'=>e=.returned (.tuple #[])∧Scp w' b0 b1 b2 b3 b4 p (ks ++ [d]) be loc f∧Below b0 w w':=by
 obtain ⟨l0,l1,l2,l3,l4,sm,sp,s3,s4⟩:=h.sm
 have hc:=sp.s2 d.name
 have hb:decN ks d.name≤10000:=Nat.le_trans List.countP_le_length hl
 have h0:(atM l0 d.name).getD (.int .i64 0)=.int .i64 (((valK ks d.name).getD 0:Nat):Int):=by rw [sp.s0 d.name];cases valK ks d.name <;> rfl
 obtain ⟨sa,sM,sc,h1⟩:∃ (sa:Option Addr) (sm sc:Nat),(atM l1 d.name).getD (.agg #[.string ⟨#[]⟩,.string ⟨#[]⟩,.int .i64 0,.int .i64 0,.int .i64 0,.slice none 0 0])=.agg #[.string ((tabK ks d.name).getD Tr.zero).op,.string ((tabK ks d.name).getD Tr.zero).name,.int .i64 (((tabK ks d.name).getD Tr.zero).kind:Nat),.int .i64 ((tabK ks d.name).getD Tr.zero).n,.int .i64 (((tabK ks d.name).getD Tr.zero).pl:Nat),.slice sa sm sc]:=by
  have e:=sp.s1 d.name
  cases q:tabK ks d.name with
  | none=>rw [q] at e;rw [e];exact ⟨_,_,_,rfl⟩
  | some t=>rw [q] at e;obtain ⟨sa,sm,sc,e⟩:=e;rw [e];exact ⟨sa,sm,sc,rfl⟩
 cases hd with
 | inp nm kind a h1' h6 =>
  exact (declare_inp sm nm kind 0 a va vm vc _ hc hb _ h0 _ _ _ _ _ _ _ _ h1).mono fun e w' ⟨q1,q2,q3⟩=>⟨q1,q2.scp (sp.val _ rfl rfl) s3 s4,q3⟩
 | rul nm kind a e h1' h6 he =>
  exact (declare_rul sm nm kind 0 a va vm vc _ hc hb _ h0 _ _ _ _ _ _ _ _ h1).mono fun e w' ⟨q1,q2,q3⟩=>⟨q1,q2.scp (sp.val _ rfl rfl) s3 s4,q3⟩
 | tab nm kind kk a rs l h1' h6 k1 k6 hl' hr hz =>
  exact (declare_tab sm nm kind kk a va vm vc _ hc hb _ h0 _ _ _ _ _ _ _ _ h1).mono fun e w' ⟨q1,q2,q3⟩=>⟨q1,q2.scp (sp.tab _ rfl rfl va vm vc) s3 s4,q3⟩
theorem mmK (w:World):(Instr.makeMap 195 none).run Tryz.prog w=.ok (.map (some w.heap.size)) (w.alloc (.map #[] 0)):=by kernel_rfl
theorem mmN (w:World):(Instr.makeMap 163 none).run Tryz.prog w=.ok (.map (some w.heap.size)) (w.alloc (.map #[] 0)):=by kernel_rfl
theorem mmI (w:World):(Instr.makeMap 97 none).run Tryz.prog w=.ok (.map (some w.heap.size)) (w.alloc (.map #[] 0)):=by kernel_rfl
theorem MapS.al {w:World} {b:Nat} {l:List (ByteArray × Value)} (h:MapS w b l) (o:Obj):MapS (w.alloc o) b l:=h.kept (((Below.refl _ _).alloc (Nat.le_refl _) o).block b h.lt)
theorem Sm.new (w:World):Sm ((((((w.alloc (.map #[] 0)).alloc (.map #[] 0)).alloc (.map #[] 0)).alloc (.map #[] 0)).alloc (.map #[] 0)).alloc (.cells #[.map (some (w.heap.size)),.map (some (w.heap.size+1)),.map (some (w.heap.size+1+1)),.map (some (w.heap.size+1+1+1)),.map (some (w.heap.size+1+1+1+1)),.int .i64 0] 197)) (w.heap.size) (w.heap.size+1) (w.heap.size+1+1) (w.heap.size+1+1+1) (w.heap.size+1+1+1+1) (w.heap.size+1+1+1+1+1) [] [] [] [] [] 0:=by
 have e1:(w.alloc (.map #[] 0)).heap.size=w.heap.size+1:=by simp
 have e2:((w.alloc (.map #[] 0)).alloc (.map #[] 0)).heap.size=w.heap.size+1+1:=by simp
 have e3:(((w.alloc (.map #[] 0)).alloc (.map #[] 0)).alloc (.map #[] 0)).heap.size=w.heap.size+1+1+1:=by simp
 have e4:((((w.alloc (.map #[] 0)).alloc (.map #[] 0)).alloc (.map #[] 0)).alloc (.map #[] 0)).heap.size=w.heap.size+1+1+1+1:=by simp
 have e5:(((((w.alloc (.map #[] 0)).alloc (.map #[] 0)).alloc (.map #[] 0)).alloc (.map #[] 0)).alloc (.map #[] 0)).heap.size=w.heap.size+1+1+1+1+1:=by simp
 have n0:=MapS.new w
 have n1:=MapS.new (w.alloc (.map #[] 0))
 have n2:=MapS.new ((w.alloc (.map #[] 0)).alloc (.map #[] 0))
 have n3:=MapS.new (((w.alloc (.map #[] 0)).alloc (.map #[] 0)).alloc (.map #[] 0))
 have n4:=MapS.new ((((w.alloc (.map #[] 0)).alloc (.map #[] 0)).alloc (.map #[] 0)).alloc (.map #[] 0))
 have bx:=B6.new (((((w.alloc (.map #[] 0)).alloc (.map #[] 0)).alloc (.map #[] 0)).alloc (.map #[] 0)).alloc (.map #[] 0)) 197 (.map (some (w.heap.size))) (.map (some (w.heap.size+1))) (.map (some (w.heap.size+1+1))) (.map (some (w.heap.size+1+1+1))) (.map (some (w.heap.size+1+1+1+1))) (.int .i64 0)
 rw [e1] at n1
 rw [e2] at n2
 rw [e3] at n3
 rw [e4] at n4
 rw [e5] at bx
 exact ⟨bx,(((((n0.al _).al _).al _).al _).al _),((((n1.al _).al _).al _).al _),(((n2.al _).al _).al _),((n3.al _).al _),(n4.al _),by omega⟩
theorem bes_app (be:List (ByteArray × Nat)) (x:ByteArray × Nat) (nm:ByteArray):besK (be ++ [x]) nm=if nm=x.1 then some x.2 else besK be nm:=by
 unfold besK
 rw [List.foldl_append]
 show (if eqB x.1 nm=true then some x.2 else _)=_
 by_cases c:nm=x.1
 ·rw [if_pos c,if_pos (by rw [c];exact eqB_self _)]
 ·rw [if_neg c,if_neg (by rw [eqB_ne c];simp)]
theorem Scp.bes {w:World} {b0 b1 b2 b3 b4 p:Nat} {ks:List Tr} {be:List (ByteArray × Nat)} {loc:List ByteArray} {f:Nat} (h:Scp w b0 b1 b2 b3 b4 p ks be loc f) (x:ByteArray × Nat):∃ w',(Instr.mapUpdate 195 (.map (some b3)) (.string x.1) (.int .i64 (x.2:Nat))).run Tryz.prog w=.ok () w'∧Scp w' b0 b1 b2 b3 b4 p ks (be ++ [x]) loc f∧w.grownBy w' (some b3):=by
 obtain ⟨l0,l1,l2,l3,l4,sm,sp,s3,s4⟩:=h.sm
 obtain ⟨w',r,m,g⟩:=storeM w b3 x.1 (.int .i64 (x.2:Nat)) l3 sm.m3 umK
 have lt:=h.lt
 have pl:=h.pl
 have kb:∀ y,y≠b3→y<w.heap.size→w'.heap[y]?=w.heap[y]?:=fun y n hy=>g.block y hy (fun e=>n (by injection e))
 have sm':Sm w' b0 b1 b2 b3 b4 p l0 l1 l2 (setM l3 x.1 (.int .i64 (x.2:Nat))) l4 f:=⟨sm.bx.keep (kb p (by omega) pl),sm.m0.kept (kb b0 (by omega) (by omega)),sm.m1.kept (kb b1 (by omega) (by omega)),sm.m2.kept (kb b2 (by omega) (by omega)),m,sm.m4.kept (kb b4 (by omega) (by omega)),lt⟩
 refine ⟨w',r,sm'.scp sp (fun nm=>?_) s4,g⟩
 rw [at_set,bes_app]
 by_cases c:nm=x.1
 ·rw [if_pos c,if_pos c];rfl
 ·rw [if_neg c,if_neg c,s3 nm]
def Fw (w:World) (a:Option Addr) (be:List (ByteArray × Nat)):Prop:=∀ i x,be[i]?=some x→∃ g,a=some ⟨g,0,none⟩∧w.cell? ⟨g,i*2,none⟩=some (.string x.1)∧w.cell? ⟨g,i*2+1,none⟩=some (.int .i64 (x.2:Nat))
theorem Fw.next {w w':World} {a:Option Addr} {be:List (ByteArray × Nat)} (h:Fw w a be) (k:Below w.heap.size w w'):Fw w' a be:=fun i x hx=>by
 obtain ⟨g,e,c0,c1⟩:=h i x hx
 have lt:g<w.heap.size:=World.block_lt_of_cell? _ _ c0
 exact ⟨g,e,(World.cell?_of_block (a:=⟨g,i*2,none⟩) (k.block g lt)).trans c0,(World.cell?_of_block (a:=⟨g,i*2+1,none⟩) (k.block g lt)).trans c1⟩
theorem spc_nil:Spc [] [] [] []:=⟨fun _=>rfl,fun _=>rfl,fun _=>rfl⟩
def NsP (ks:List Tr) (be:List (ByteArray × Nat)) (w:World) (e:Ending) (w':World):Prop:=∃ b0 b1 b2 b3 b4 p,e=.returned (.pointer (some ⟨p,0,none⟩))∧Scp w' b0 b1 b2 b3 b4 p ks be [] 0∧Below w.heap.size w w'∧w.heap.size≤b0
structure NIn (w wr:World) (b0 b1 b2 b3 b4 p:Nat) (S:Nat→Prop) (sv:Value) (ks ks':List Tr) (be:List (ByteArray × Nat)):Prop where
 sc:Scp wr b0 b1 b2 b3 b4 p ks' be [] 0
 nd:Nd wr (fun g=>S g∧g<w.heap.size) sv ks
 bl:Below w.heap.size w wr
set_option maxRecDepth 100000 in
set_option maxHeartbeats 8000000 in
theorem newScope_any (t:Tr) (S:Nat→Prop) (w:World) (v:Value) (hd:Nd w S v t.kids) (hg:∀ k,k ∈ t.kids→GD k) (hl:t.kids.length≤10000) (be:List (ByteArray × Nat)) (wa:Option Addr) (wc:Nat) (hb:Fw w wa be) (hbl:be.length≤10000) :
  Calls Tryz.prog 148 #[.agg #[.string t.op,.string t.name,.int .i64 (t.kind:Nat),.int .i64 t.n,.int .i64 (t.pl:Nat),v],.slice wa be.length wc] w fun e w'=>NsP t.kids be w e w':=by
 obtain ⟨sa,sc,rfl⟩:=hd.lenY
 generalize t.kids=ks at *
 have B1:=hid (show Below w.heap.size w (w.alloc (.cells #[.string t.op,.string t.name,.int .i64 (t.kind:Nat),.int .i64 t.n,.int .i64 (t.pl:Nat),.slice sa ks.length sc] 26)) from (Below.refl _ _).alloc (Nat.le_refl _) _)
 have X1:=hid (B6.new w 26 (.string t.op) (.string t.name) (.int .i64 (t.kind:Nat)) (.int .i64 t.n) (.int .i64 (t.pl:Nat)) (.slice sa ks.length sc))
 have SN:=hid (Sm.new (w.alloc (.cells #[.string t.op,.string t.name,.int .i64 (t.kind:Nat),.int .i64 t.n,.int .i64 (t.pl:Nat),.slice sa ks.length sc] 26)))
 have sz:(w.alloc (.cells #[.string t.op,.string t.name,.int .i64 (t.kind:Nat),.int .i64 t.n,.int .i64 (t.pl:Nat),.slice sa ks.length sc] 26)).heap.size=w.heap.size+1:=by simp
 rw [sz] at SN
 clear sz
 have KL:(ks.length:Int)≤10000:=by omega
 have BL:(be.length:Int)≤10000:=by omega
 have KN:=hid hl
 have HG:=hid hg
 have FW:=hid hb
 have HD:=hid hd
 have m0:=mmK
 have m1:=mmN
 have m2:=mmI
 clear hd hg hl hb hbl
 have BN:=hid (show Below w.heap.size w (((((((w.alloc (.cells #[.string t.op,.string t.name,.int .i64 (t.kind:Nat),.int .i64 t.n,.int .i64 (t.pl:Nat),.slice sa ks.length sc] 26)).alloc (.map #[] 0)).alloc (.map #[] 0)).alloc (.map #[] 0)).alloc (.map #[] 0)).alloc (.map #[] 0)).alloc (.cells #[.map (some (w.heap.size+1)),.map (some (w.heap.size+1+1)),.map (some (w.heap.size+1+1+1)),.map (some (w.heap.size+1+1+1+1)),.map (some (w.heap.size+1+1+1+1+1)),.int .i64 0] 197)) from ((((((((Below.refl _ _).alloc (Nat.le_refl _) _).alloc (by simp only [World.size_alloc];omega) _).alloc (by simp only [World.size_alloc];omega) _).alloc (by simp only [World.size_alloc];omega) _).alloc (by simp only [World.size_alloc];omega) _).alloc (by simp only [World.size_alloc];omega) _).alloc (by simp only [World.size_alloc];omega) _))
 have LT0:=hid (show w.heap.size<w.heap.size+1 from by omega)
 have X2:=hid (show B6 (((((((w.alloc (.cells #[.string t.op,.string t.name,.int .i64 (t.kind:Nat),.int .i64 t.n,.int .i64 (t.pl:Nat),.slice sa ks.length sc] 26)).alloc (.map #[] 0)).alloc (.map #[] 0)).alloc (.map #[] 0)).alloc (.map #[] 0)).alloc (.map #[] 0)).alloc (.cells #[.map (some (w.heap.size+1)),.map (some (w.heap.size+1+1)),.map (some (w.heap.size+1+1+1)),.map (some (w.heap.size+1+1+1+1)),.map (some (w.heap.size+1+1+1+1+1)),.int .i64 0] 197)) w.heap.size (.string t.op) (.string t.name) (.int .i64 (t.kind:Nat)) (.int .i64 t.n) (.int .i64 (t.pl:Nat)) (.slice sa ks.length sc) from ((((((X1.out.next ((Below.refl _ _).alloc (Nat.le_refl _) _)).next ((Below.refl _ _).alloc (Nat.le_refl _) _)).next ((Below.refl _ _).alloc (Nat.le_refl _) _)).next ((Below.refl _ _).alloc (Nat.le_refl _) _)).next ((Below.refl _ _).alloc (Nat.le_refl _) _)).next ((Below.refl _ _).alloc (Nat.le_refl _) _)))
 go_enter Tryz.func148,Tryz.ntmps148
 go_upto_region 2 with fail
 clear m0 m1 m2 B1 X1
 generalize World.alloc (World.alloc (World.alloc (World.alloc (World.alloc (World.alloc (World.alloc w _) _) _) _) _) _) _=w2 at *
 generalize w.heap.size+1+1+1+1+1+1=p at *
 generalize w.heap.size+1+1+1+1+1=b4 at *
 generalize w.heap.size+1+1+1+1=b3 at *
 generalize w.heap.size+1+1+1=b2 at *
 generalize w.heap.size+1+1=b1 at *
 generalize w.heap.size+1=b0 at *
 have x5:=X2.out.c5
 have I0:=hid (show NIn w w2 b0 b1 b2 b3 b4 p S (.slice sa ks.length sc) ks (ks.take 0) [] from ⟨SN.out.scp spc_nil (fun _=>rfl) (fun _=>rfl),HD.out.keep (fun g s l=>⟨⟨s,l⟩,BN.out.block g l⟩),BN.out⟩)
 go_upto_region 3 with fail
 clear x5
 go_loopg [20,7] (ks.length) (fun g iv kv wr=>∃ i:Nat,i≤ks.length∧g=ks.length - i∧iv=.int .i64 (i:Nat)∧Hid (NIn w wr b0 b1 b2 b3 b4 p S (.slice sa ks.length sc) ks (ks.take i) []))
 case atStart=>exact ⟨0,Nat.zero_le _,rfl,rfl,I0.out⟩
 case round =>
  obtain ⟨i,hi,rfl,rfl,II⟩:=hrel
  by_cases qi:i<ks.length
  ·have qi':(i:Int)<(ks.length:Int):=by omega
   obtain ⟨k,hk⟩:∃ k,ks[i]?=some k:=⟨_,List.getElem?_eq_getElem qi⟩
   obtain ⟨g,c,s3,ea,nc,nk⟩:=II.out.nd.atY i k hk
   obtain ⟨ka,km,kc,rfl⟩:=nk.slice
   injection ea with ea _ ec
   subst ea ec
   have GK:=hid (HG.out k (List.mem_of_getElem? hk))
   have TK:=hid (show ks.take i ++ [k]=ks.take (i+1) from by
    obtain ⟨h1,h2⟩:=List.getElem?_eq_some_iff.1 hk
    rw [← h2,List.take_append_getElem])
   obtain ⟨n0,n1,n2,n3,n4,n5⟩:=nc
   clear nk hk
   have B3:=hid (show Below wr.heap.size wr (wr.alloc (.cells #[.string k.op,.string k.name,.int .i64 (k.kind:Nat),.int .i64 k.n,.int .i64 (k.pl:Nat),.slice ka km kc] 26)) from (Below.refl _ _).alloc (Nat.le_refl _) _)
   have X3:=hid (B6.new wr 26 (.string k.op) (.string k.name) (.int .i64 (k.kind:Nat)) (.int .i64 k.n) (.int .i64 (k.pl:Nat)) (.slice ka km kc))
   have S3:=hid (II.out.sc.next B3.out)
   have N3:=hid (II.out.nd.keep (S':=fun g=>S g∧g<w.heap.size) fun g s l=>⟨s,B3.out.block g l⟩)
   have A3:=hid (nextB II.out.bl B3.out)
   clear II
   go_upto_region 5 with fail
   clear n0 n1 n2 n3 n4 n5
   generalize World.alloc wr _=w3 at *
   generalize wr.heap.size=xb at *
   have KD:=hid (declare_any S3.out k GK.out (Nat.le_trans (List.length_take_le _ _) (Nat.le_trans hi KN.out)) ka km kc)
   obtain ⟨x0,x1,x2,x3,x4,x5,xz⟩:=X3.out
   go_upto_region 6 with (go_at_call 185;with_reducible refine Calls.mono KD.out ?_;rintro e w4 ⟨rfl,sc4,bl4⟩;have S4:=hid sc4;have B4:=hid bl4;clear sc4 bl4)
   rw [TK.out] at S4
   clear x0 x1 x2 x3 x4 x5 xz
   have N4:=hid (N3.out.keep (S':=fun g=>S g∧g<w.heap.size) fun g s l=>⟨s,B4.out.block g (by have:=s.2;have:=LT0.out;omega)⟩)
   have A4:=hid (A3.out.trans (B4.out.mono (Nat.le_of_lt LT0.out)))
   go_wp2_with fail
   go_roundg (ks.length - (i+1))
   case measure=>omega
   case rel=>exact ⟨i+1,by omega,rfl,by rw [Int.natCast_add];rfl,S4.out,N4.out,A4.out⟩
  ·have qi':¬ (i:Int)<(ks.length:Int):=by omega
   have TK:=hid (show ks.take i=ks from List.take_of_length_le (by omega))
   rw [TK.out] at II
   have J0:=hid (show NIn w wr b0 b1 b2 b3 b4 p S (.slice sa ks.length sc) ks ks (be.take 0) from II.out)
   go_upto_region 8 with fail
   go_loopg [30,9] (be.length) (fun g iv kv wr=>∃ i:Nat,i≤be.length∧g=be.length - i∧iv=.int .i64 (i:Nat)∧Hid (NIn w wr b0 b1 b2 b3 b4 p S (.slice sa ks.length sc) ks ks (be.take i)))
   case atStart=>exact ⟨0,Nat.zero_le _,rfl,rfl,J0.out⟩
   case round =>
    obtain ⟨i,hi,rfl,rfl,JJ⟩:=hrel
    by_cases qj:i<be.length
    ·have qj':(i:Int)<(be.length:Int):=by omega
     obtain ⟨x,hx⟩:∃ x,be[i]?=some x:=⟨_,List.getElem?_eq_getElem qj⟩
     obtain ⟨g,rfl,f0,f1⟩:=(FW.out.next JJ.out.bl) i x hx
     have TX:=hid (show be.take i ++ [x]=be.take (i+1) from by
      obtain ⟨h1,h2⟩:=List.getElem?_eq_some_iff.1 hx
      rw [← h2,List.take_append_getElem])
     obtain ⟨xs,xk⟩:=x
     dsimp only at f0 f1
     clear hx
     have B3:=hid (show Below wr.heap.size wr (wr.alloc (.cells #[.string xs,.int .i64 (xk:Nat)] 126)) from (Below.refl _ _).alloc (Nat.le_refl _) _)
     have Y0:=hid (show (wr.alloc (.cells #[.string xs,.int .i64 (xk:Nat)] 126)).cell? ⟨wr.heap.size,0,none⟩=some (.string xs)∧(wr.alloc (.cells #[.string xs,.int .i64 (xk:Nat)] 126)).cell? ⟨wr.heap.size,1,none⟩=some (.int .i64 (xk:Nat)) from ⟨by simp,by simp⟩)
     have S3:=hid (JJ.out.sc.next B3.out)
     have N3:=hid (JJ.out.nd.keep (S':=fun g=>S g∧g<w.heap.size) fun g s l=>⟨s,B3.out.block g l⟩)
     have A3:=hid (nextB JJ.out.bl B3.out)
     have PX:=hid (show p<wr.heap.size from JJ.out.sc.pl)
     clear JJ
     go_upto_region 10 with fail
     clear f0 f1
     generalize World.alloc wr _=w3 at *
     generalize wr.heap.size=xb at *
     refine wp_region_held_drew (S:=fun W=>W.cell? ⟨p,3,none⟩=some (.map (some b3))∧W.cell? ⟨xb,0,none⟩=some (.string xs)∧W.cell? ⟨xb,1,none⟩=some (.int .i64 (xk:Nat))) (by kernel_rfl) ⟨S3.out.c3,Y0.out.1,Y0.out.2⟩ (fun hHeld=>?_)
     refine take2 rfl (i:=0) (v:=.pointer (some ⟨p,0,none⟩)) (d:=34) rfl rfl (by kernel_rfl) (by kernel_rfl) (by kernel_rfl) (fun _ _ _ h=>h) (Or.inl ⟨by rfl,?_⟩) hHeld ?_
     ·(intro W hW;(try dsimp only at hW);go_simp)
     try simp only [Act.put,List.setIfInBounds_toArray,List.set_cons_zero,List.set_cons_succ]
     refine take2 rfl (i:=1) (v:=.pointer (some ⟨p,0,none⟩)) (d:=35) rfl rfl (by kernel_rfl) (by kernel_rfl) (by kernel_rfl) (fun _ _ _ h=>h) (Or.inl ⟨by rfl,?_⟩) hHeld ?_
     ·(intro W hW;(try dsimp only at hW);go_simp)
     try simp only [Act.put,List.setIfInBounds_toArray,List.set_cons_zero,List.set_cons_succ]
     refine take2 rfl (i:=2) (v:=.pointer (some ⟨p,3,none⟩)) (d:=36) rfl rfl (by kernel_rfl) (by kernel_rfl) (by kernel_rfl) (fun _ _ _ h=>h) (Or.inl ⟨by rfl,?_⟩) hHeld ?_
     ·(intro W hW;(try dsimp only at hW);go_simp)
     try simp only [Act.put,List.setIfInBounds_toArray,List.set_cons_zero,List.set_cons_succ]
     refine take2 rfl (i:=3) (v:=.map (some b3)) (d:=37) rfl rfl (by kernel_rfl) (by kernel_rfl) (by kernel_rfl) (fun _ _ _ h=>h) (Or.inl ⟨by rfl,?_⟩) hHeld ?_
     ·(intro W hW;(try dsimp only at hW);have c4:=hW.1;go_simp)
     try simp only [Act.put,List.setIfInBounds_toArray,List.set_cons_zero,List.set_cons_succ]
     refine take2 rfl (i:=4) (v:=.pointer (some ⟨xb,0,none⟩)) (d:=38) rfl rfl (by kernel_rfl) (by kernel_rfl) (by kernel_rfl) (fun _ _ _ h=>h) (Or.inl ⟨by rfl,?_⟩) hHeld ?_
     ·(intro W hW;(try dsimp only at hW);go_simp)
     try simp only [Act.put,List.setIfInBounds_toArray,List.set_cons_zero,List.set_cons_succ]
     refine take2 rfl (i:=5) (v:=.string xs) (d:=39) rfl rfl (by kernel_rfl) (by kernel_rfl) (by kernel_rfl) (fun _ _ _ h=>h) (Or.inl ⟨by rfl,?_⟩) hHeld ?_
     ·(intro W hW;(try dsimp only at hW);have c4:=hW.2.1;go_simp)
     try simp only [Act.put,List.setIfInBounds_toArray,List.set_cons_zero,List.set_cons_succ]
     refine take2 rfl (i:=6) (v:=.pointer (some ⟨xb,1,none⟩)) (d:=40) rfl rfl (by kernel_rfl) (by kernel_rfl) (by kernel_rfl) (fun _ _ _ h=>h) (Or.inl ⟨by rfl,?_⟩) hHeld ?_
     ·(intro W hW;(try dsimp only at hW);go_simp)
     try simp only [Act.put,List.setIfInBounds_toArray,List.set_cons_zero,List.set_cons_succ]
     refine take2 rfl (i:=7) (v:=.int .i64 (xk:Nat)) (d:=41) rfl rfl (by kernel_rfl) (by kernel_rfl) (by kernel_rfl) (fun _ _ _ h=>h) (Or.inl ⟨by rfl,?_⟩) hHeld ?_
     ·(intro W hW;(try dsimp only at hW);have c4:=hW.2.2;go_simp)
     try simp only [Act.put,List.setIfInBounds_toArray,List.set_cons_zero,List.set_cons_succ]
     have D3:=hid (show Below w3.heap.size w3 w3.drew from (Below.refl _ _).drew)
     have YZ:=hid (show w3.drew.cell? ⟨xb,0,none⟩=some (.string xs)∧w3.drew.cell? ⟨xb,1,none⟩=some (.int .i64 (xk:Nat)) from Y0.out)
     generalize w3.drew=wz at *
     have SZ:=hid (S3.out.next D3.out)
     obtain ⟨w6,r6,sc6,g6⟩:=SZ.out.bes (xs,xk)
     dsimp only at r6
     rw [TX.out] at sc6
     have S6:=hid sc6
     have Y6:=hid (show w6.cell? ⟨xb,0,none⟩=some (.string xs)∧w6.cell? ⟨xb,1,none⟩=some (.int .i64 (xk:Nat)) from by
      have hb:=g6.block xb (World.block_lt_of_cell? _ _ YZ.out.1) (fun e=>by injection e with e;have:=PX.out;have:=SZ.out.lt;omega)
      exact ⟨(World.cell?_of_block (a:=⟨xb,0,none⟩) hb).trans YZ.out.1,(World.cell?_of_block (a:=⟨xb,1,none⟩) hb).trans YZ.out.2⟩)
     have N6:=hid ((N3.out.gwY D3.out).keep (S':=fun g=>S g∧g<w.heap.size) (fun g s l=>⟨s,g6.block g l (fun e=>by injection e with e;have:=s.2;have:=LT0.out;have:=SZ.out.lt;omega)⟩))
     have A6:=hid (belG (nextB A3.out D3.out) g6 (by have:=LT0.out;have:=SZ.out.lt;omega) (nextB A3.out D3.out).size)
     clear sc6 g6
     refine wpAnyH_ready (rs:=[8]) (by kernel_rfl) (by simp) ?_
     refine cons2 rfl rfl (fun K9 hK=>?_)
     go_simp
     go_wp2_with fail
     refine hK.out _ _ ⟨S6.out.c3,Y6.out.1,Y6.out.2⟩ (fun hX=>?_)
     clear hK K9 hHeld
     have hHeld:=hX
     clear hX
     try simp only [Act.put,List.setIfInBounds_toArray,List.set_cons_zero,List.set_cons_succ]
     refine wpAnyH_done (by kernel_rfl) ?_ _
     go_wp2_with fail
     go_roundg (be.length - (i+1))
     case measure=>omega
     case rel=>exact ⟨i+1,by omega,rfl,by rw [Int.natCast_add];rfl,S6.out,N6.out,A6.out⟩
    ·have qj':¬ (i:Int)<(be.length:Int):=by omega
     have TX:=hid (show be.take i=be from List.take_of_length_le (by omega))
     rw [TX.out] at JJ
     go_wp2_with fail
     go_returns
     exact ⟨b0,b1,b2,b3,b4,p,rfl,JJ.out.sc,JJ.out.bl,Nat.le_of_lt LT0.out⟩
end Go.Proofs.YteknljnjcoehoaaGreatDoor
