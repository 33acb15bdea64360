/- Parts of the proof. -/
import Derived.Test.YtbeahnehjannpaaDoorJk
import Derived.Test.YtbeahnehjannpaaDoorJD
namespace Go.Proofs.YtbeahnehjannpaaDoor
open Go.RowKit
set_option linter.unusedVariables false
set_option linter.unusedSimpArgs false
def txf:ByteArray:=⟨#[114,117,108,101,32,97,32,109,111,110,101,121,32,61,32,36,49,32,43,32,36,50,32,42,32,51,59]⟩
def eA:Tr:=.nd ⟨#[43]⟩ ⟨#[]⟩ 0 0 18 [.nd ⟨#[108,105,116]⟩ ⟨#[]⟩ 3 100 15 [],.nd ⟨#[42]⟩ ⟨#[]⟩ 0 0 23 [.nd ⟨#[108,105,116]⟩ ⟨#[]⟩ 3 200 20 [],.nd ⟨#[108,105,116]⟩ ⟨#[]⟩ 2 3 25 []]]
def rA:Tr:=.nd ⟨#[114,117,108,101]⟩ ⟨#[97]⟩ 3 0 0 [eA]
def tA:Tr:=.nd ⟨#[115,116,97,116,117,116,101]⟩ ⟨#[]⟩ 0 0 0 [rA]
def eB':Tr:=.nd ⟨#[108,105,116]⟩ ⟨#[]⟩ 3 700 18 []
def rB':Tr:=.nd ⟨#[114,117,108,101]⟩ ⟨#[97]⟩ 3 0 0 [eB']
def tB':Tr:=.nd ⟨#[115,116,97,116,117,116,101]⟩ ⟨#[]⟩ 0 0 0 [rB']
theorem txf_ok:okX txf=true:=by decide +kernel
theorem txf_is:trX txf=tA:=by kernel_rfl
theorem eA_fd:fdE eA=eB':=by kernel_rfl
theorem tA_fd:fdS tA=tB':=by
 show Tr.nd ⟨#[115,116,97,116,117,116,101]⟩ ⟨#[]⟩ 0 0 0 [fdD rA]=tB'
 rw [show fdD rA=.nd ⟨#[114,117,108,101]⟩ ⟨#[97]⟩ 3 0 0 [fdE eA] from rfl,eA_fd]
 rfl
theorem eA_gx:GX eA:=gx_ok eA (by decide +kernel)
theorem eA_sz:szT eA=5:=by kernel_rfl
structure AwF (w:World) (q3 q5 g1 c1 g2 c2 ga ca gb cb:Nat) (sx:Option Addr) (sy:Nat):Prop where
 n5:w.cell? ⟨q3,5,none⟩=some (.slice (some ⟨g1,0,none⟩) 1 c1)
 r5:w.cell? ⟨g1,5,none⟩=some (.slice (some ⟨g2,0,none⟩) 1 c2)
 e0:w.cell? ⟨g2,0,none⟩=some (.string ⟨#[43]⟩)
 e1:w.cell? ⟨g2,1,none⟩=some (.string ⟨#[]⟩)
 e2:w.cell? ⟨g2,2,none⟩=some (.int .i64 0)
 e3:w.cell? ⟨g2,3,none⟩=some (.int .i64 0)
 e4:w.cell? ⟨g2,4,none⟩=some (.int .i64 18)
 e5:w.cell? ⟨g2,5,none⟩=some (.slice sx 2 sy)
 m5:w.cell? ⟨q5,5,none⟩=some (.slice (some ⟨ga,0,none⟩) 1 ca)
 p5:w.cell? ⟨ga,5,none⟩=some (.slice (some ⟨gb,0,none⟩) 1 cb)
 l0:w.cell? ⟨gb,0,none⟩=some (.string ⟨#[108,105,116]⟩)
 l1:w.cell? ⟨gb,1,none⟩=some (.string ⟨#[]⟩)
 l2:w.cell? ⟨gb,2,none⟩=some (.int .i64 3)
 l3:w.cell? ⟨gb,3,none⟩=some (.int .i64 700)
 l4:w.cell? ⟨gb,4,none⟩=some (.int .i64 18)
 l5:w.cell? ⟨gb,5,none⟩=some (.slice none 0 0)
 nd:Nd w (fun _=>True) (.slice sx 2 sy) eA.kids
theorem cellB {w w':World} (k:Below w.heap.size w w') {b i:Nat} {v:Value} (h:w.cell? ⟨b,i,none⟩=some v):w'.cell? ⟨b,i,none⟩=some v:=(World.cell?_of_block (a:=⟨b,i,none⟩) (k.block b (World.block_lt_of_cell? _ _ h))).trans h
theorem AwF.next {w w':World} {q3 q5 g1 c1 g2 c2 ga ca gb cb:Nat} {sx:Option Addr} {sy:Nat} (h:AwF w q3 q5 g1 c1 g2 c2 ga ca gb cb sx sy) (k:Below w.heap.size w w'):AwF w' q3 q5 g1 c1 g2 c2 ga ca gb cb sx sy :=
 ⟨cellB k h.n5,cellB k h.r5,cellB k h.e0,cellB k h.e1,cellB k h.e2,cellB k h.e3,cellB k h.e4,cellB k h.e5,cellB k h.m5,cellB k h.p5,cellB k h.l0,cellB k h.l1,cellB k h.l2,cellB k h.l3,cellB k h.l4,cellB k h.l5,h.nd.any k⟩
theorem eA_sm:Sz eA:=by
 refine .mk _ (by decide) fun k hk=>?_
 simp only [eA,Tr.kids,List.mem_cons,List.not_mem_nil,or_false] at hk
 rcases hk with rfl | rfl
 ·exact .mk _ (by decide) fun k hk=>by simp [Tr.kids] at hk
 ·refine .mk _ (by decide) fun k hk=>?_
  simp only [Tr.kids,List.mem_cons,List.not_mem_nil,or_false] at hk
  rcases hk with rfl | rfl
  ·exact .mk _ (by decide) fun k hk=>by simp [Tr.kids] at hk
  ·exact .mk _ (by decide) fun k hk=>by simp [Tr.kids] at hk
theorem eB_nw:Nw eB':=.nd _ _ _ _ _ [] (by decide) (fun t h=>by simp at h)
theorem AwF.mk5 {w3 w4:World} {q3 g1 c1 g2 c2 ga ca gb cb sy:Nat} {sx:Option Addr} (X:B6 w3 q3 (.string ⟨#[115,116,97,116,117,116,101]⟩) (.string ⟨#[]⟩) (.int .i64 0) (.int .i64 0) (.int .i64 0) (.slice (some ⟨g1,0,none⟩) 1 c1)) (A:NC w3 g1 0 rA (.slice (some ⟨g2,0,none⟩) 1 c2)) (E:NC w3 g2 0 eA (.slice sx 2 sy)) (D:Nd w3 (fun _=>True) (.slice sx 2 sy) eA.kids) (b:Below w3.heap.size w3 w4)
  (R:NC w4 ga 0 rB' (.slice (some ⟨gb,0,none⟩) 1 cb)) (L:NC w4 gb 0 eB' (.slice none 0 0)):AwF (w4.alloc (.cells #[.string ⟨#[115,116,97,116,117,116,101]⟩,.string ⟨#[]⟩,.int .i64 0,.int .i64 0,.int .i64 0,.slice (some ⟨ga,0,none⟩) 1 ca] 28)) q3 w4.heap.size g1 c1 g2 c2 ga ca gb cb sx sy:=by
 have k:Below w4.heap.size w4 (w4.alloc (.cells #[.string ⟨#[115,116,97,116,117,116,101]⟩,.string ⟨#[]⟩,.int .i64 0,.int .i64 0,.int .i64 0,.slice (some ⟨ga,0,none⟩) 1 ca] 28)):=(Below.refl _ _).alloc (Nat.le_refl _) _
 have k2:=nextB b k
 have nb:=B6.new w4 28 (.string ⟨#[115,116,97,116,117,116,101]⟩) (.string ⟨#[]⟩) (.int .i64 0) (.int .i64 0) (.int .i64 0) (.slice (some ⟨ga,0,none⟩) 1 ca)
 exact ⟨cellB k2 X.c5,cellB k2 A.e5,cellB k2 E.e0,cellB k2 E.e1,cellB k2 E.e2,cellB k2 E.e3,cellB k2 E.e4,cellB k2 E.e5,nb.c5,cellB k R.e5,cellB k L.e0,cellB k L.e1,cellB k L.e2,cellB k L.e3,cellB k L.e4,cellB k L.e5,D.any k2⟩
set_option maxRecDepth 100000 in
set_option maxHeartbeats 8000000 in
theorem read_f (w:World):Calls Tryd.prog 6 #[.string txf] w fun e w'=>∃ (g1 c1 g2 c2 sy sn sd:Nat) (sx sb:Option Addr),e=.returned (.tuple #[.agg #[.string ⟨#[115,116,97,116,117,116,101]⟩,.string ⟨#[]⟩,.int .i64 0,.int .i64 0,.int .i64 0,.slice (some ⟨g1,0,none⟩) 1 c1],.agg #[.string ⟨#[115,116,97,116,117,116,101]⟩,.string ⟨#[]⟩,.int .i64 0,.int .i64 0,.int .i64 0,.slice sb sn sd],.bool true])∧NC w' g1 0 rA (.slice (some ⟨g2,0,none⟩) 1 c2)∧NC w' g2 0 eA (.slice sx 2 sy)∧Nd w' (fun _=>True) (.slice sx 2 sy) eA.kids∧Nd w' (fun _=>True) (.slice (some ⟨g1,0,none⟩) 1 c1) [rA]∧Below w.heap.size w w':=by
 have h:=read_any txf w (by decide)
 unfold RdX at h
 rw [txf_is,txf_ok] at h
 refine h.mono ?_
 rintro e w' ⟨b,sa,sb,sm,sc,sn,sd,rfl,n1,n2⟩
 have n1:Nd w' (fun _=>True) (.slice sa sm sc) [rA]:=n1.keep fun g s l=>⟨trivial,rfl⟩
 obtain ⟨g1,c1,a0,m0,u0,e1,_,nc1,nd1⟩:=Nd.k1 n1
 injection e1 with e1 e2 e3
 subst e1 e2 e3
 have nd1:Nd w' (fun _=>True) (.slice a0 m0 u0) [eA]:=nd1
 obtain ⟨g2,c2,a1,m1,u1,e1,_,nc2,nd2⟩:=Nd.k1 nd1
 injection e1 with e1 e2 e3
 subst e1 e2 e3
 obtain ⟨z1,z2,z3⟩:=nd2.len2
 injection z3 with z3 z4 z5
 subst z4
 exact ⟨g1,sc,g2,u0,u1,sn,sd,a1,sb,rfl,nc1,nc2,nd2,n1,b⟩
theorem fold_f (w:World) (hT:TabU w) (g1 c1:Nat) (h:Nd w (fun _=>True) (.slice (some ⟨g1,0,none⟩) 1 c1) [rA]):Calls Tryd.prog 7 #[.agg #[.string ⟨#[115,116,97,116,117,116,101]⟩,.string ⟨#[]⟩,.int .i64 0,.int .i64 0,.int .i64 0,.slice (some ⟨g1,0,none⟩) 1 c1]] w fun e w'=>∃ ga ca gb cb:Nat,e=.returned (.agg #[.string ⟨#[115,116,97,116,117,116,101]⟩,.string ⟨#[]⟩,.int .i64 0,.int .i64 0,.int .i64 0,.slice (some ⟨ga,0,none⟩) 1 ca])∧NC w' ga 0 rB' (.slice (some ⟨gb,0,none⟩) 1 cb)∧NC w' gb 0 eB' (.slice none 0 0)∧Below w.heap.size w w':=by
 have k:=fold_any ⟨#[115,116,97,116,117,116,101]⟩ ⟨#[]⟩ 0 0 0 [rA] (by decide) (fun k hk=>by
  obtain rfl:=List.mem_singleton.1 hk
  exact decl_rule ⟨#[114,117,108,101]⟩ ⟨#[97]⟩ 3 0 0 [eA] rfl (by decide) (fun x hx=>by
   obtain rfl:=List.mem_singleton.1 hx
   exact (expr_any eA_gx).1)) _ w _ hT ⟨_,rfl,h⟩
 refine k.mono ?_
 rintro e w' ⟨v,rfl,nv,b⟩
 rw [show fdS (.nd ⟨#[115,116,97,116,117,116,101]⟩ ⟨#[]⟩ 0 0 0 [rA])=tB' from tA_fd] at nv
 obtain ⟨sl,rfl,nd⟩:=nv
 have nd:Nd w' _ sl [rB']:=nd
 obtain ⟨ga,ca,a0,m0,u0,rfl,_,nc1,nd1⟩:=Nd.k1 nd
 have nd1:Nd w' _ (.slice a0 m0 u0) [eB']:=nd1
 obtain ⟨gb,cb,a1,m1,u1,e1,_,nc2,nd2⟩:=Nd.k1 nd1
 injection e1 with e1 e2 e3
 subst e1 e2 e3
 have e4:=Nd.k0 (show Nd w' _ (.slice a1 m1 u1) [] from nd2)
 injection e4 with e4 e5 e6
 subst e4 e5 e6
 exact ⟨ga,ca,gb,u0,rfl,nc1,nc2,b⟩
set_option maxRecDepth 100000 in
set_option maxHeartbeats 8000000 in
theorem awakeF (w:World) (hT:TabU w):Calls Tryd.prog 4 #[] w fun e w'=>e=.returned (.bool true)∧Below w.heap.size w w':=by
 have K1:=hid (read_f w)
 have HT:=hid hT
 clear hT
 unfold txf at K1
 go_enter Tryd.func4,Tryd.ntmps4
 go_upto_region 2 with (go_at_call 6;(with_reducible refine Calls.mono K1.out ?_);rintro e w2 ⟨g1,c1,g2,c2,sy,sn,sd,sx,sb,rfl,nc1,nc2,nd2,nd1,b2⟩;have B2:=hid b2;have NA:=hid nc1;have NE:=hid nc2;have DE:=hid nd2;have DR:=hid nd1;clear nc1 nc2 nd1 nd2 b2)
 have bX:=(show Below w2.heap.size w2 ((w2.alloc (.cells #[.string ⟨#[115,116,97,116,117,116,101]⟩,.string ⟨#[]⟩,.int .i64 0,.int .i64 0,.int .i64 0,.slice (some ⟨g1,0,none⟩) 1 c1] 28)).alloc (.cells #[.string ⟨#[115,116,97,116,117,116,101]⟩,.string ⟨#[]⟩,.int .i64 0,.int .i64 0,.int .i64 0,.slice sb sn sd] 31)) from ((Below.refl _ _).alloc (Nat.le_refl _) _).alloc (by simp) _)
 have B3:=hid (nextB B2.out bX)
 have X3:=hid (show B6 ((w2.alloc (.cells #[.string ⟨#[115,116,97,116,117,116,101]⟩,.string ⟨#[]⟩,.int .i64 0,.int .i64 0,.int .i64 0,.slice (some ⟨g1,0,none⟩) 1 c1] 28)).alloc (.cells #[.string ⟨#[115,116,97,116,117,116,101]⟩,.string ⟨#[]⟩,.int .i64 0,.int .i64 0,.int .i64 0,.slice sb sn sd] 31)) w2.heap.size (.string ⟨#[115,116,97,116,117,116,101]⟩) (.string ⟨#[]⟩) (.int .i64 0) (.int .i64 0) (.int .i64 0) (.slice (some ⟨g1,0,none⟩) 1 c1) from (B6.new w2 28 (.string ⟨#[115,116,97,116,117,116,101]⟩) (.string ⟨#[]⟩) (.int .i64 0) (.int .i64 0) (.int .i64 0) (.slice (some ⟨g1,0,none⟩) 1 c1)).next ((Below.refl _ _).alloc (Nat.le_refl _) _))
 have NA3:=hid (NA.out.keep (bX.block _ (World.block_lt_of_cell? _ _ NA.out.e0)))
 have NE3:=hid (NE.out.keep (bX.block _ (World.block_lt_of_cell? _ _ NE.out.e0)))
 have DE3:=hid (DE.out.any bX)
 have DR3:=hid (DR.out.any bX)
 clear bX B2 NA NE DE DR K1
 generalize World.alloc (World.alloc w2 _) _=w3 at *
 generalize w2.heap.size=q3 at *
 have KF:=hid (fold_f w3 (HT.out.next B3.out) g1 c1 DR3.out)
 have KZ:=hid (show ∀ W,Nd W (fun _=>True) (.slice sx 2 sy) eA.kids→Calls Tryd.prog 9 #[.agg #[.string ⟨#[43]⟩,.string ⟨#[]⟩,.int .i64 0,.int .i64 0,.int .i64 18,.slice sx 2 sy]] W fun e w'=>e=.returned (.int .i64 5)∧Below W.heap.size W w' from fun W h=>by
  have k:=size_any (t:=eA) eA_sm (fun _=>True) W _ (by rw [eA_sz];decide) ⟨_,rfl,h⟩
  rw [eA_sz] at k
  exact k)
 have KX:=hid (show ∀ W,Below w.heap.size w W→Nd W (fun _=>True) (.slice sx 2 sy) eA.kids→Calls Tryd.prog 10 #[.agg #[.string ⟨#[43]⟩,.string ⟨#[]⟩,.int .i64 0,.int .i64 0,.int .i64 18,.slice sx 2 sy]] W fun e w'=>e=.returned (.agg #[.string ⟨#[108,105,116]⟩,.string ⟨#[]⟩,.int .i64 3,.int .i64 700,.int .i64 18,.slice none 0 0])∧Below W.heap.size W w' from fun W hb h=>by
  refine ((expr_any eA_gx).1 (fun _=>True) W _ (HT.out.next hb) ⟨_,rfl,h⟩).mono ?_
  rintro e9 w9 ⟨v9,rfl,n9,b9⟩
  rw [eA_fd] at n9
  obtain ⟨sl,rfl,nd⟩:=n9
  have e4:=Nd.k0 (show Nd w9 _ sl [] from nd)
  subst e4
  exact ⟨rfl,b9⟩)
 have KM:=hid (show ∀ W,Calls Tryd.prog 8 #[.agg #[.string ⟨#[108,105,116]⟩,.string ⟨#[]⟩,.int .i64 3,.int .i64 700,.int .i64 18,.slice none 0 0],.agg #[.string ⟨#[108,105,116]⟩,.string ⟨#[]⟩,.int .i64 3,.int .i64 700,.int .i64 18,.slice none 0 0]] W fun e w'=>e=.returned (.bool true)∧Below W.heap.size W w' from fun W=>by
  have k:=same_any (t:=eB') eB_nw eB' W (fun _=>True) none none 0 0 0 0 (show Nd W _ (.slice none 0 0) [] from .nil) (show Nd W _ (.slice none 0 0) [] from .nil)
  rw [show smT eB' eB'=true from by decide +kernel] at k
  exact k)
 obtain ⟨x0,x1,x2,x3,x4,x5,xz⟩:=X3.out
 go_upto_region 3 with (go_at_call 7;(with_reducible refine Calls.mono KF.out ?_);rintro e w4 ⟨ga,ca,gb,cb,rfl,nc1,nc2,b4⟩;have B4:=hid (nextB B3.out b4);have AW:=hid (show AwF (w4.alloc (.cells #[.string ⟨#[115,116,97,116,117,116,101]⟩,.string ⟨#[]⟩,.int .i64 0,.int .i64 0,.int .i64 0,.slice (some ⟨ga,0,none⟩) 1 ca] 28)) q3 w4.heap.size g1 c1 g2 c2 ga ca gb cb sx sy from AwF.mk5 X3.out NA3.out NE3.out DE3.out b4 nc1 nc2);have B5:=hid (nextB B4.out (show Below w4.heap.size w4 (w4.alloc (.cells #[.string ⟨#[115,116,97,116,117,116,101]⟩,.string ⟨#[]⟩,.int .i64 0,.int .i64 0,.int .i64 0,.slice (some ⟨ga,0,none⟩) 1 ca] 28)) from (Below.refl _ _).alloc (Nat.le_refl _) _));clear nc1 nc2 b4)
 clear x0 x1 x2 x3 x4 x5 xz X3 NA3 NE3 DE3 DR3 B3 B4 KF
 generalize World.alloc w4 _=w5 at *
 generalize w4.heap.size=q5 at *
 simp only [List.append_eq,List.cons_append,List.nil_append,List.append]
 refine wp_region_held_drew (S:=fun W=>Below w5.heap.size w5 W) (by kernel_rfl) (Below.refl _ _).drew (fun hHeld=>?_)
 have BB:=hid (show Below w5.heap.size w5 w5.drew from (Below.refl _ _).drew)
 generalize w5.drew=v0 at *
 refine tkq 0 (.bool true) 12 rfl rfl rfl (by kernel_rfl) (fun _ _ _ h=>h) (by rfl) hHeld ?_ ?_
 ·(intro W hW;(try dsimp only at hW);go_simp)
 try simp only [Act.put,List.setIfInBounds_toArray,List.set_cons_zero,List.set_cons_succ]
 refine tkq 1 (.bool true) 13 rfl rfl rfl (by kernel_rfl) (fun _ _ _ h=>h) (by rfl) hHeld ?_ ?_
 ·(intro W hW;(try dsimp only at hW);go_simp)
 try simp only [Act.put,List.setIfInBounds_toArray,List.set_cons_zero,List.set_cons_succ]
 refine tkq 2 (.pointer (some ⟨q5,5,none⟩)) 14 rfl rfl rfl (by kernel_rfl) (fun _ _ _ h=>h) (by rfl) hHeld ?_ ?_
 ·(intro W hW;(try dsimp only at hW);go_simp)
 try simp only [Act.put,List.setIfInBounds_toArray,List.set_cons_zero,List.set_cons_succ]
 refine tkq 3 (.slice (some ⟨ga,0,none⟩) 1 ca) 15 rfl rfl rfl (by kernel_rfl) (fun _ _ _ h=>h) (by rfl) hHeld ?_ ?_
 ·(intro W hW;(try dsimp only at hW);obtain ⟨n5,r5,e0,e1,e2,e3,e4,e5,m5,p5,l0,l1,l2,l3,l4,l5,nd⟩:=AW.out.next hW;go_simp)
 try simp only [Act.put,List.setIfInBounds_toArray,List.set_cons_zero,List.set_cons_succ]
 refine tkq 4 (.int .i64 1) 16 rfl rfl rfl (by kernel_rfl) (fun _ _ _ h=>h) (by rfl) hHeld ?_ ?_
 ·(intro W hW;(try dsimp only at hW);go_simp)
 try simp only [Act.put,List.setIfInBounds_toArray,List.set_cons_zero,List.set_cons_succ]
 refine tkq 5 (.bool true) 17 rfl rfl rfl (by kernel_rfl) (fun _ _ _ h=>h) (by rfl) hHeld ?_ ?_
 ·(intro W hW;(try dsimp only at hW);go_simp)
 try simp only [Act.put,List.setIfInBounds_toArray,List.set_cons_zero,List.set_cons_succ]
 refine tkq 6 (.bool true) 18 rfl rfl rfl (by kernel_rfl) (fun _ _ _ h=>h) (by rfl) hHeld ?_ ?_
 ·(intro W hW;(try dsimp only at hW);go_simp)
 try simp only [Act.put,List.setIfInBounds_toArray,List.set_cons_zero,List.set_cons_succ]
 refine tkq 7 (.bool true) 19 rfl rfl rfl (by kernel_rfl) (fun _ _ _ h=>h) (by rfl) hHeld ?_ ?_
 ·(intro W hW;(try dsimp only at hW);go_simp)
 try simp only [Act.put,List.setIfInBounds_toArray,List.set_cons_zero,List.set_cons_succ]
 refine tkq 8 (.pointer (some ⟨q5,5,none⟩)) 20 rfl rfl rfl (by kernel_rfl) (fun _ _ _ h=>h) (by rfl) hHeld ?_ ?_
 ·(intro W hW;(try dsimp only at hW);go_simp)
 try simp only [Act.put,List.setIfInBounds_toArray,List.set_cons_zero,List.set_cons_succ]
 refine tkq 9 (.slice (some ⟨ga,0,none⟩) 1 ca) 21 rfl rfl rfl (by kernel_rfl) (fun _ _ _ h=>h) (by rfl) hHeld ?_ ?_
 ·(intro W hW;(try dsimp only at hW);obtain ⟨n5,r5,e0,e1,e2,e3,e4,e5,m5,p5,l0,l1,l2,l3,l4,l5,nd⟩:=AW.out.next hW;go_simp)
 try simp only [Act.put,List.setIfInBounds_toArray,List.set_cons_zero,List.set_cons_succ]
 refine tkq 10 (.pointer (some ⟨ga,0,none⟩)) 22 rfl rfl rfl (by kernel_rfl) (fun _ _ _ h=>h) (by rfl) hHeld ?_ ?_
 ·(intro W hW;(try dsimp only at hW);go_simp)
 try simp only [Act.put,List.setIfInBounds_toArray,List.set_cons_zero,List.set_cons_succ]
 refine tkq 11 (.pointer (some ⟨ga,5,none⟩)) 23 rfl rfl rfl (by kernel_rfl) (fun _ _ _ h=>h) (by rfl) hHeld ?_ ?_
 ·(intro W hW;(try dsimp only at hW);go_simp)
 try simp only [Act.put,List.setIfInBounds_toArray,List.set_cons_zero,List.set_cons_succ]
 refine tkq 12 (.slice (some ⟨gb,0,none⟩) 1 cb) 24 rfl rfl rfl (by kernel_rfl) (fun _ _ _ h=>h) (by rfl) hHeld ?_ ?_
 ·(intro W hW;(try dsimp only at hW);obtain ⟨n5,r5,e0,e1,e2,e3,e4,e5,m5,p5,l0,l1,l2,l3,l4,l5,nd⟩:=AW.out.next hW;go_simp)
 try simp only [Act.put,List.setIfInBounds_toArray,List.set_cons_zero,List.set_cons_succ]
 refine tkq 13 (.int .i64 1) 25 rfl rfl rfl (by kernel_rfl) (fun _ _ _ h=>h) (by rfl) hHeld ?_ ?_
 ·(intro W hW;(try dsimp only at hW);go_simp)
 try simp only [Act.put,List.setIfInBounds_toArray,List.set_cons_zero,List.set_cons_succ]
 refine tkq 14 (.bool true) 26 rfl rfl rfl (by kernel_rfl) (fun _ _ _ h=>h) (by rfl) hHeld ?_ ?_
 ·(intro W hW;(try dsimp only at hW);go_simp)
 try simp only [Act.put,List.setIfInBounds_toArray,List.set_cons_zero,List.set_cons_succ]
 refine tkq 15 (.bool true) 27 rfl rfl rfl (by kernel_rfl) (fun _ _ _ h=>h) (by rfl) hHeld ?_ ?_
 ·(intro W hW;(try dsimp only at hW);go_simp)
 try simp only [Act.put,List.setIfInBounds_toArray,List.set_cons_zero,List.set_cons_succ]
 refine tkq 16 (.bool true) 28 rfl rfl rfl (by kernel_rfl) (fun _ _ _ h=>h) (by rfl) hHeld ?_ ?_
 ·(intro W hW;(try dsimp only at hW);go_simp)
 try simp only [Act.put,List.setIfInBounds_toArray,List.set_cons_zero,List.set_cons_succ]
 refine tkq 17 (.pointer (some ⟨q5,5,none⟩)) 29 rfl rfl rfl (by kernel_rfl) (fun _ _ _ h=>h) (by rfl) hHeld ?_ ?_
 ·(intro W hW;(try dsimp only at hW);go_simp)
 try simp only [Act.put,List.setIfInBounds_toArray,List.set_cons_zero,List.set_cons_succ]
 refine tkq 18 (.slice (some ⟨ga,0,none⟩) 1 ca) 30 rfl rfl rfl (by kernel_rfl) (fun _ _ _ h=>h) (by rfl) hHeld ?_ ?_
 ·(intro W hW;(try dsimp only at hW);obtain ⟨n5,r5,e0,e1,e2,e3,e4,e5,m5,p5,l0,l1,l2,l3,l4,l5,nd⟩:=AW.out.next hW;go_simp)
 try simp only [Act.put,List.setIfInBounds_toArray,List.set_cons_zero,List.set_cons_succ]
 refine tkq 19 (.pointer (some ⟨ga,0,none⟩)) 31 rfl rfl rfl (by kernel_rfl) (fun _ _ _ h=>h) (by rfl) hHeld ?_ ?_
 ·(intro W hW;(try dsimp only at hW);go_simp)
 try simp only [Act.put,List.setIfInBounds_toArray,List.set_cons_zero,List.set_cons_succ]
 refine tkq 20 (.pointer (some ⟨ga,5,none⟩)) 32 rfl rfl rfl (by kernel_rfl) (fun _ _ _ h=>h) (by rfl) hHeld ?_ ?_
 ·(intro W hW;(try dsimp only at hW);go_simp)
 try simp only [Act.put,List.setIfInBounds_toArray,List.set_cons_zero,List.set_cons_succ]
 refine tkq 21 (.slice (some ⟨gb,0,none⟩) 1 cb) 33 rfl rfl rfl (by kernel_rfl) (fun _ _ _ h=>h) (by rfl) hHeld ?_ ?_
 ·(intro W hW;(try dsimp only at hW);obtain ⟨n5,r5,e0,e1,e2,e3,e4,e5,m5,p5,l0,l1,l2,l3,l4,l5,nd⟩:=AW.out.next hW;go_simp)
 try simp only [Act.put,List.setIfInBounds_toArray,List.set_cons_zero,List.set_cons_succ]
 refine tkq 22 (.pointer (some ⟨gb,0,none⟩)) 34 rfl rfl rfl (by kernel_rfl) (fun _ _ _ h=>h) (by rfl) hHeld ?_ ?_
 ·(intro W hW;(try dsimp only at hW);go_simp)
 try simp only [Act.put,List.setIfInBounds_toArray,List.set_cons_zero,List.set_cons_succ]
 refine tkq 23 (.pointer (some ⟨gb,0,none⟩)) 35 rfl rfl rfl (by kernel_rfl) (fun _ _ _ h=>h) (by rfl) hHeld ?_ ?_
 ·(intro W hW;(try dsimp only at hW);go_simp)
 try simp only [Act.put,List.setIfInBounds_toArray,List.set_cons_zero,List.set_cons_succ]
 refine tkq 24 (.string ⟨#[108,105,116]⟩) 36 rfl rfl rfl (by kernel_rfl) (fun _ _ _ h=>h) (by rfl) hHeld ?_ ?_
 ·(intro W hW;(try dsimp only at hW);obtain ⟨n5,r5,e0,e1,e2,e3,e4,e5,m5,p5,l0,l1,l2,l3,l4,l5,nd⟩:=AW.out.next hW;go_simp)
 try simp only [Act.put,List.setIfInBounds_toArray,List.set_cons_zero,List.set_cons_succ]
 refine tkq 25 (.bool true) 37 rfl rfl rfl (by kernel_rfl) (fun _ _ _ h=>h) (by rfl) hHeld ?_ ?_
 ·(intro W hW;(try dsimp only at hW);go_simp)
 try simp only [Act.put,List.setIfInBounds_toArray,List.set_cons_zero,List.set_cons_succ]
 refine tkq 26 (.bool true) 38 rfl rfl rfl (by kernel_rfl) (fun _ _ _ h=>h) (by rfl) hHeld ?_ ?_
 ·(intro W hW;(try dsimp only at hW);go_simp)
 try simp only [Act.put,List.setIfInBounds_toArray,List.set_cons_zero,List.set_cons_succ]
 refine tkq 27 (.bool true) 39 rfl rfl rfl (by kernel_rfl) (fun _ _ _ h=>h) (by rfl) hHeld ?_ ?_
 ·(intro W hW;(try dsimp only at hW);go_simp)
 try simp only [Act.put,List.setIfInBounds_toArray,List.set_cons_zero,List.set_cons_succ]
 refine tkq 28 (.pointer (some ⟨q5,5,none⟩)) 40 rfl rfl rfl (by kernel_rfl) (fun _ _ _ h=>h) (by rfl) hHeld ?_ ?_
 ·(intro W hW;(try dsimp only at hW);go_simp)
 try simp only [Act.put,List.setIfInBounds_toArray,List.set_cons_zero,List.set_cons_succ]
 refine tkq 29 (.slice (some ⟨ga,0,none⟩) 1 ca) 41 rfl rfl rfl (by kernel_rfl) (fun _ _ _ h=>h) (by rfl) hHeld ?_ ?_
 ·(intro W hW;(try dsimp only at hW);obtain ⟨n5,r5,e0,e1,e2,e3,e4,e5,m5,p5,l0,l1,l2,l3,l4,l5,nd⟩:=AW.out.next hW;go_simp)
 try simp only [Act.put,List.setIfInBounds_toArray,List.set_cons_zero,List.set_cons_succ]
 refine tkq 30 (.pointer (some ⟨ga,0,none⟩)) 42 rfl rfl rfl (by kernel_rfl) (fun _ _ _ h=>h) (by rfl) hHeld ?_ ?_
 ·(intro W hW;(try dsimp only at hW);go_simp)
 try simp only [Act.put,List.setIfInBounds_toArray,List.set_cons_zero,List.set_cons_succ]
 refine tkq 31 (.pointer (some ⟨ga,5,none⟩)) 43 rfl rfl rfl (by kernel_rfl) (fun _ _ _ h=>h) (by rfl) hHeld ?_ ?_
 ·(intro W hW;(try dsimp only at hW);go_simp)
 try simp only [Act.put,List.setIfInBounds_toArray,List.set_cons_zero,List.set_cons_succ]
 refine tkq 32 (.slice (some ⟨gb,0,none⟩) 1 cb) 44 rfl rfl rfl (by kernel_rfl) (fun _ _ _ h=>h) (by rfl) hHeld ?_ ?_
 ·(intro W hW;(try dsimp only at hW);obtain ⟨n5,r5,e0,e1,e2,e3,e4,e5,m5,p5,l0,l1,l2,l3,l4,l5,nd⟩:=AW.out.next hW;go_simp)
 try simp only [Act.put,List.setIfInBounds_toArray,List.set_cons_zero,List.set_cons_succ]
 refine tkq 33 (.pointer (some ⟨gb,0,none⟩)) 45 rfl rfl rfl (by kernel_rfl) (fun _ _ _ h=>h) (by rfl) hHeld ?_ ?_
 ·(intro W hW;(try dsimp only at hW);go_simp)
 try simp only [Act.put,List.setIfInBounds_toArray,List.set_cons_zero,List.set_cons_succ]
 refine tkq 34 (.pointer (some ⟨gb,3,none⟩)) 46 rfl rfl rfl (by kernel_rfl) (fun _ _ _ h=>h) (by rfl) hHeld ?_ ?_
 ·(intro W hW;(try dsimp only at hW);go_simp)
 try simp only [Act.put,List.setIfInBounds_toArray,List.set_cons_zero,List.set_cons_succ]
 refine tkq 35 (.int .i64 700) 47 rfl rfl rfl (by kernel_rfl) (fun _ _ _ h=>h) (by rfl) hHeld ?_ ?_
 ·(intro W hW;(try dsimp only at hW);obtain ⟨n5,r5,e0,e1,e2,e3,e4,e5,m5,p5,l0,l1,l2,l3,l4,l5,nd⟩:=AW.out.next hW;go_simp)
 try simp only [Act.put,List.setIfInBounds_toArray,List.set_cons_zero,List.set_cons_succ]
 refine tkq 36 (.bool true) 48 rfl rfl rfl (by kernel_rfl) (fun _ _ _ h=>h) (by rfl) hHeld ?_ ?_
 ·(intro W hW;(try dsimp only at hW);go_simp)
 try simp only [Act.put,List.setIfInBounds_toArray,List.set_cons_zero,List.set_cons_succ]
 refine tkq 37 (.bool true) 49 rfl rfl rfl (by kernel_rfl) (fun _ _ _ h=>h) (by rfl) hHeld ?_ ?_
 ·(intro W hW;(try dsimp only at hW);go_simp)
 try simp only [Act.put,List.setIfInBounds_toArray,List.set_cons_zero,List.set_cons_succ]
 refine tkq 38 (.bool true) 50 rfl rfl rfl (by kernel_rfl) (fun _ _ _ h=>h) (by rfl) hHeld ?_ ?_
 ·(intro W hW;(try dsimp only at hW);go_simp)
 try simp only [Act.put,List.setIfInBounds_toArray,List.set_cons_zero,List.set_cons_succ]
 refine tkq 39 (.pointer (some ⟨q3,5,none⟩)) 51 rfl rfl rfl (by kernel_rfl) (fun _ _ _ h=>h) (by rfl) hHeld ?_ ?_
 ·(intro W hW;(try dsimp only at hW);go_simp)
 try simp only [Act.put,List.setIfInBounds_toArray,List.set_cons_zero,List.set_cons_succ]
 refine tkq 40 (.slice (some ⟨g1,0,none⟩) 1 c1) 52 rfl rfl rfl (by kernel_rfl) (fun _ _ _ h=>h) (by rfl) hHeld ?_ ?_
 ·(intro W hW;(try dsimp only at hW);obtain ⟨n5,r5,e0,e1,e2,e3,e4,e5,m5,p5,l0,l1,l2,l3,l4,l5,nd⟩:=AW.out.next hW;go_simp)
 try simp only [Act.put,List.setIfInBounds_toArray,List.set_cons_zero,List.set_cons_succ]
 refine tkq 41 (.pointer (some ⟨g1,0,none⟩)) 53 rfl rfl rfl (by kernel_rfl) (fun _ _ _ h=>h) (by rfl) hHeld ?_ ?_
 ·(intro W hW;(try dsimp only at hW);go_simp)
 try simp only [Act.put,List.setIfInBounds_toArray,List.set_cons_zero,List.set_cons_succ]
 refine tkq 42 (.pointer (some ⟨g1,5,none⟩)) 54 rfl rfl rfl (by kernel_rfl) (fun _ _ _ h=>h) (by rfl) hHeld ?_ ?_
 ·(intro W hW;(try dsimp only at hW);go_simp)
 try simp only [Act.put,List.setIfInBounds_toArray,List.set_cons_zero,List.set_cons_succ]
 refine tkq 43 (.slice (some ⟨g2,0,none⟩) 1 c2) 55 rfl rfl rfl (by kernel_rfl) (fun _ _ _ h=>h) (by rfl) hHeld ?_ ?_
 ·(intro W hW;(try dsimp only at hW);obtain ⟨n5,r5,e0,e1,e2,e3,e4,e5,m5,p5,l0,l1,l2,l3,l4,l5,nd⟩:=AW.out.next hW;go_simp)
 try simp only [Act.put,List.setIfInBounds_toArray,List.set_cons_zero,List.set_cons_succ]
 refine tkq 44 (.pointer (some ⟨g2,0,none⟩)) 56 rfl rfl rfl (by kernel_rfl) (fun _ _ _ h=>h) (by rfl) hHeld ?_ ?_
 ·(intro W hW;(try dsimp only at hW);go_simp)
 try simp only [Act.put,List.setIfInBounds_toArray,List.set_cons_zero,List.set_cons_succ]
 refine tkq 45 (.agg #[.string ⟨#[43]⟩,.string ⟨#[]⟩,.int .i64 0,.int .i64 0,.int .i64 18,.slice sx 2 sy]) 57 rfl rfl rfl (by kernel_rfl) (fun _ _ _ h=>h) (by rfl) hHeld ?_ ?_
 ·(intro W hW;(try dsimp only at hW);obtain ⟨n5,r5,e0,e1,e2,e3,e4,e5,m5,p5,l0,l1,l2,l3,l4,l5,nd⟩:=AW.out.next hW;go_simp)
 try simp only [Act.put,List.setIfInBounds_toArray,List.set_cons_zero,List.set_cons_succ]
 refine wpAnyH_ready (rs:=[46]) (by kernel_rfl) (by simp) ?_
 refine cons2 rfl rfl (fun K9 hK=>?_)
 have KV:=hid (KZ.out v0 (AW.out.next BB.out).nd)
 go_simp
 refine Calls.mono KV.out ?_
 rintro e9 v1 ⟨rfl,b7⟩
 clear KV
 have BN:=hid (nextB BB.out b7)
 clear b7
 go_wp2_with fail
 refine hK.out _ _ BN.out (fun hX=>?_)
 clear hK K9 hHeld
 have hHeld:=hX
 clear hX
 try simp only [Act.put,List.setIfInBounds_toArray,List.set_cons_zero,List.set_cons_succ]
 clear BB
 have BB:=BN
 clear BN
 refine tkq 47 (.bool true) 59 rfl rfl rfl (by kernel_rfl) (fun _ _ _ h=>h) (by rfl) hHeld ?_ ?_
 ·(intro W hW;(try dsimp only at hW);go_simp)
 try simp only [Act.put,List.setIfInBounds_toArray,List.set_cons_zero,List.set_cons_succ]
 refine tkq 48 (.bool true) 60 rfl rfl rfl (by kernel_rfl) (fun _ _ _ h=>h) (by rfl) hHeld ?_ ?_
 ·(intro W hW;(try dsimp only at hW);go_simp)
 try simp only [Act.put,List.setIfInBounds_toArray,List.set_cons_zero,List.set_cons_succ]
 refine tkq 49 (.bool true) 61 rfl rfl rfl (by kernel_rfl) (fun _ _ _ h=>h) (by rfl) hHeld ?_ ?_
 ·(intro W hW;(try dsimp only at hW);go_simp)
 try simp only [Act.put,List.setIfInBounds_toArray,List.set_cons_zero,List.set_cons_succ]
 refine tkq 50 (.pointer (some ⟨q3,5,none⟩)) 62 rfl rfl rfl (by kernel_rfl) (fun _ _ _ h=>h) (by rfl) hHeld ?_ ?_
 ·(intro W hW;(try dsimp only at hW);go_simp)
 try simp only [Act.put,List.setIfInBounds_toArray,List.set_cons_zero,List.set_cons_succ]
 refine tkq 51 (.slice (some ⟨g1,0,none⟩) 1 c1) 63 rfl rfl rfl (by kernel_rfl) (fun _ _ _ h=>h) (by rfl) hHeld ?_ ?_
 ·(intro W hW;(try dsimp only at hW);obtain ⟨n5,r5,e0,e1,e2,e3,e4,e5,m5,p5,l0,l1,l2,l3,l4,l5,nd⟩:=AW.out.next hW;go_simp)
 try simp only [Act.put,List.setIfInBounds_toArray,List.set_cons_zero,List.set_cons_succ]
 refine tkq 52 (.pointer (some ⟨g1,0,none⟩)) 64 rfl rfl rfl (by kernel_rfl) (fun _ _ _ h=>h) (by rfl) hHeld ?_ ?_
 ·(intro W hW;(try dsimp only at hW);go_simp)
 try simp only [Act.put,List.setIfInBounds_toArray,List.set_cons_zero,List.set_cons_succ]
 refine tkq 53 (.pointer (some ⟨g1,5,none⟩)) 65 rfl rfl rfl (by kernel_rfl) (fun _ _ _ h=>h) (by rfl) hHeld ?_ ?_
 ·(intro W hW;(try dsimp only at hW);go_simp)
 try simp only [Act.put,List.setIfInBounds_toArray,List.set_cons_zero,List.set_cons_succ]
 refine tkq 54 (.slice (some ⟨g2,0,none⟩) 1 c2) 66 rfl rfl rfl (by kernel_rfl) (fun _ _ _ h=>h) (by rfl) hHeld ?_ ?_
 ·(intro W hW;(try dsimp only at hW);obtain ⟨n5,r5,e0,e1,e2,e3,e4,e5,m5,p5,l0,l1,l2,l3,l4,l5,nd⟩:=AW.out.next hW;go_simp)
 try simp only [Act.put,List.setIfInBounds_toArray,List.set_cons_zero,List.set_cons_succ]
 refine tkq 55 (.pointer (some ⟨g2,0,none⟩)) 67 rfl rfl rfl (by kernel_rfl) (fun _ _ _ h=>h) (by rfl) hHeld ?_ ?_
 ·(intro W hW;(try dsimp only at hW);go_simp)
 try simp only [Act.put,List.setIfInBounds_toArray,List.set_cons_zero,List.set_cons_succ]
 refine tkq 56 (.agg #[.string ⟨#[43]⟩,.string ⟨#[]⟩,.int .i64 0,.int .i64 0,.int .i64 18,.slice sx 2 sy]) 68 rfl rfl rfl (by kernel_rfl) (fun _ _ _ h=>h) (by rfl) hHeld ?_ ?_
 ·(intro W hW;(try dsimp only at hW);obtain ⟨n5,r5,e0,e1,e2,e3,e4,e5,m5,p5,l0,l1,l2,l3,l4,l5,nd⟩:=AW.out.next hW;go_simp)
 try simp only [Act.put,List.setIfInBounds_toArray,List.set_cons_zero,List.set_cons_succ]
 refine tkq 58 (.pointer (some ⟨q5,5,none⟩)) 70 rfl rfl rfl (by kernel_rfl) (fun _ _ _ h=>h) (by rfl) hHeld ?_ ?_
 ·(intro W hW;(try dsimp only at hW);go_simp)
 try simp only [Act.put,List.setIfInBounds_toArray,List.set_cons_zero,List.set_cons_succ]
 refine tkq 59 (.slice (some ⟨ga,0,none⟩) 1 ca) 71 rfl rfl rfl (by kernel_rfl) (fun _ _ _ h=>h) (by rfl) hHeld ?_ ?_
 ·(intro W hW;(try dsimp only at hW);obtain ⟨n5,r5,e0,e1,e2,e3,e4,e5,m5,p5,l0,l1,l2,l3,l4,l5,nd⟩:=AW.out.next hW;go_simp)
 try simp only [Act.put,List.setIfInBounds_toArray,List.set_cons_zero,List.set_cons_succ]
 refine tkq 60 (.pointer (some ⟨ga,0,none⟩)) 72 rfl rfl rfl (by kernel_rfl) (fun _ _ _ h=>h) (by rfl) hHeld ?_ ?_
 ·(intro W hW;(try dsimp only at hW);go_simp)
 try simp only [Act.put,List.setIfInBounds_toArray,List.set_cons_zero,List.set_cons_succ]
 refine tkq 61 (.pointer (some ⟨ga,5,none⟩)) 73 rfl rfl rfl (by kernel_rfl) (fun _ _ _ h=>h) (by rfl) hHeld ?_ ?_
 ·(intro W hW;(try dsimp only at hW);go_simp)
 try simp only [Act.put,List.setIfInBounds_toArray,List.set_cons_zero,List.set_cons_succ]
 refine tkq 62 (.slice (some ⟨gb,0,none⟩) 1 cb) 74 rfl rfl rfl (by kernel_rfl) (fun _ _ _ h=>h) (by rfl) hHeld ?_ ?_
 ·(intro W hW;(try dsimp only at hW);obtain ⟨n5,r5,e0,e1,e2,e3,e4,e5,m5,p5,l0,l1,l2,l3,l4,l5,nd⟩:=AW.out.next hW;go_simp)
 try simp only [Act.put,List.setIfInBounds_toArray,List.set_cons_zero,List.set_cons_succ]
 refine tkq 63 (.pointer (some ⟨gb,0,none⟩)) 75 rfl rfl rfl (by kernel_rfl) (fun _ _ _ h=>h) (by rfl) hHeld ?_ ?_
 ·(intro W hW;(try dsimp only at hW);go_simp)
 try simp only [Act.put,List.setIfInBounds_toArray,List.set_cons_zero,List.set_cons_succ]
 refine tkq 64 (.agg #[.string ⟨#[108,105,116]⟩,.string ⟨#[]⟩,.int .i64 3,.int .i64 700,.int .i64 18,.slice none 0 0]) 76 rfl rfl rfl (by kernel_rfl) (fun _ _ _ h=>h) (by rfl) hHeld ?_ ?_
 ·(intro W hW;(try dsimp only at hW);obtain ⟨n5,r5,e0,e1,e2,e3,e4,e5,m5,p5,l0,l1,l2,l3,l4,l5,nd⟩:=AW.out.next hW;go_simp)
 try simp only [Act.put,List.setIfInBounds_toArray,List.set_cons_zero,List.set_cons_succ]
 refine wpAnyH_ready (rs:=[57]) (by kernel_rfl) (by simp) ?_
 refine cons2 rfl rfl (fun K9 hK=>?_)
 have KV:=hid (KX.out v1 (nextB B5.out BB.out) (AW.out.next BB.out).nd)
 go_simp
 refine Calls.mono KV.out ?_
 rintro e9 v2 ⟨rfl,b7⟩
 clear KV
 have BN:=hid (nextB BB.out b7)
 clear b7
 go_wp2_with fail
 refine hK.out _ _ BN.out (fun hX=>?_)
 clear hK K9 hHeld
 have hHeld:=hX
 clear hX
 try simp only [Act.put,List.setIfInBounds_toArray,List.set_cons_zero,List.set_cons_succ]
 clear BB
 have BB:=BN
 clear BN
 refine wpAnyH_ready (rs:=[65]) (by kernel_rfl) (by simp) ?_
 refine cons2 rfl rfl (fun K9 hK=>?_)
 have KV:=hid (KM.out v2)
 go_simp
 refine Calls.mono KV.out ?_
 rintro e9 v3 ⟨rfl,b7⟩
 clear KV
 have BN:=hid (nextB BB.out b7)
 clear b7
 go_wp2_with fail
 refine hK.out _ _ BN.out (fun hX=>?_)
 clear hK K9 hHeld
 have hHeld:=hX
 clear hX
 try simp only [Act.put,List.setIfInBounds_toArray,List.set_cons_zero,List.set_cons_succ]
 clear BB
 have BB:=BN
 clear BN
 refine tkq 66 (.bool true) 78 rfl rfl rfl (by kernel_rfl) (fun _ _ _ h=>h) (by rfl) hHeld ?_ ?_
 ·(intro W hW;(try dsimp only at hW);go_simp)
 try simp only [Act.put,List.setIfInBounds_toArray,List.set_cons_zero,List.set_cons_succ]
 refine tkq 67 (.bool true) 0 rfl rfl rfl (by kernel_rfl) (fun _ _ _ h=>h) (by rfl) hHeld ?_ ?_
 ·(intro W hW;(try dsimp only at hW);go_simp)
 try simp only [Act.put,List.setIfInBounds_toArray,List.set_cons_zero,List.set_cons_succ]
 refine wpAnyH_done (by kernel_rfl) ?_ _
 go_wp2_with fail
 go_returns
 exact ⟨rfl,nextB B5.out BB.out⟩
end Go.Proofs.YtbeahnehjannpaaDoor
