/- Parts of the proof. -/
import Derived.Test.YtbeahnehjannpaaDoorJh
namespace Go.Proofs.YtbeahnehjannpaaDoor
open Go.RowKit
set_option linter.unusedVariables false
set_option linter.unusedSimpArgs false
set_option maxRecDepth 100000 in
set_option maxHeartbeats 8000000 in
theorem conn_and (nm:ByteArray) (kd:Nat) (n:Int) (pl:Nat) (x y:Tr) (se:Value) (S0:Nat→Prop) (w:World) (hS:∀ g,S0 g→g<w.heap.size) (hd:Nd w S0 se [x,y]) :
  Calls Tryd.prog 21 #[.agg #[.string ⟨#[97,110,100]⟩,.string nm,.int .i64 (kd:Nat),.int .i64 n,.int .i64 (pl:Nat),se]] w fun e' w'=>∃ v,e'=.returned v∧Nv w' S0 v (if ¬ x.n=1 then x else y)∧Below w.heap.size w w':=by
 by_cases q:x.n=1
 ·rw [show (if ¬ x.n=1 then x else y)=y from by simp [q]]
  have qq:=eqM _ _ q
  clear q
  obtain ⟨g,c,sl,rfl,hc,hk⟩:=hd.at2 (by simp)
  have C0:=hid (show NC w g 0 x (sl 0) from hc 0 x rfl)
  have D0:=hid (hk 0 x rfl)
  obtain ⟨a0,m0,c0,e0⟩:=D0.out.slice
  rw [e0] at C0 D0
  clear e0
  have C1:=hid (show NC w g 6 y (sl 1) from hc 1 y rfl)
  have D1:=hid (hk 1 y rfl)
  obtain ⟨a1,m1,c1,e1⟩:=D1.out.slice
  rw [e1] at C1 D1
  clear e1
  have sz1:(w.alloc (.cells #[.string ⟨#[97,110,100]⟩,.string nm,.int .i64 (kd:Nat),.int .i64 n,.int .i64 (pl:Nat),.slice (some ⟨g,0,none⟩) 2 c] 28)).heap.size=w.heap.size+1:=by simp
  have A1:=hid (show Below w.heap.size w ((w.alloc (.cells #[.string ⟨#[97,110,100]⟩,.string nm,.int .i64 (kd:Nat),.int .i64 n,.int .i64 (pl:Nat),.slice (some ⟨g,0,none⟩) 2 c] 28)).alloc (.cells #[.string ⟨#[]⟩,.string ⟨#[]⟩,.int .i64 0,.int .i64 0,.int .i64 0,.slice none 0 0] 28)) from ((Below.refl _ _).alloc (Nat.le_refl _) _).alloc (by simp) _)
  have X1:=hid (show B6 ((w.alloc (.cells #[.string ⟨#[97,110,100]⟩,.string nm,.int .i64 (kd:Nat),.int .i64 n,.int .i64 (pl:Nat),.slice (some ⟨g,0,none⟩) 2 c] 28)).alloc (.cells #[.string ⟨#[]⟩,.string ⟨#[]⟩,.int .i64 0,.int .i64 0,.int .i64 0,.slice none 0 0] 28)) w.heap.size (.string ⟨#[97,110,100]⟩) (.string nm) (.int .i64 (kd:Nat)) (.int .i64 n) (.int .i64 (pl:Nat)) (.slice (some ⟨g,0,none⟩) 2 c) from by
   have h:=(B6.new w 28 (.string ⟨#[97,110,100]⟩) (.string nm) (.int .i64 (kd:Nat)) (.int .i64 n) (.int .i64 (pl:Nat)) (.slice (some ⟨g,0,none⟩) 2 c)).next ((Below.refl _ _).alloc (Nat.le_refl _) (.cells #[.string ⟨#[]⟩,.string ⟨#[]⟩,.int .i64 0,.int .i64 0,.int .i64 0,.slice none 0 0] 28))
   exact h)
  have X2:=hid (show B6 ((w.alloc (.cells #[.string ⟨#[97,110,100]⟩,.string nm,.int .i64 (kd:Nat),.int .i64 n,.int .i64 (pl:Nat),.slice (some ⟨g,0,none⟩) 2 c] 28)).alloc (.cells #[.string ⟨#[]⟩,.string ⟨#[]⟩,.int .i64 0,.int .i64 0,.int .i64 0,.slice none 0 0] 28)) (w.heap.size+1) (.string ⟨#[]⟩) (.string ⟨#[]⟩) (.int .i64 0) (.int .i64 0) (.int .i64 0) (.slice none 0 0) from by
   have h:=B6.new (w.alloc (.cells #[.string ⟨#[97,110,100]⟩,.string nm,.int .i64 (kd:Nat),.int .i64 n,.int .i64 (pl:Nat),.slice (some ⟨g,0,none⟩) 2 c] 28)) 28 (.string ⟨#[]⟩) (.string ⟨#[]⟩) (.int .i64 0) (.int .i64 0) (.int .i64 0) (.slice none 0 0)
   rw [sz1] at h
   exact h)
  clear sz1
  have N0:=hid (C0.out.keep (A1.out.block g (World.block_lt_of_cell? _ _ C0.out.e0)))
  have G0:=hid (D0.out.any A1.out)
  have N1:=hid (C1.out.keep (A1.out.block g (World.block_lt_of_cell? _ _ C1.out.e0)))
  have G1:=hid (D1.out.any A1.out)
  have GLT:g<w.heap.size:=World.block_lt_of_cell? _ _ (hc 0 x rfl).e0
  clear hc hk hd C0 D0 C1 D1
  have HP:=hid (show ∀ h,S0 h→h≠w.heap.size+1 from fun h s e=>by have:=hS h s;omega)
  have GP:=hid (show g<w.heap.size from GLT)
  clear GLT hS
  go_enter Tryd.func21,Tryd.ntmps21
  go_upto_region 1 with fail
  generalize World.alloc (World.alloc w _) _=w1 at *
  have P3:=hid (show w.heap.size≤w.heap.size+1 by omega)
  have PX:=hid (show w.heap.size≠w.heap.size+1 by omega)
  generalize w.heap.size+1=p2 at *
  refine wp_region_held_drew (S:=fun W=>Below w1.heap.size w1 W) (by kernel_rfl) (Below.refl _ _).drew (fun hHeld=>?_)
  have BB:=hid (show Below w1.heap.size w1 w1.drew from (Below.refl _ _).drew)
  generalize w1.drew=v0 at *
  refine tkq 0 (.pointer (some ⟨w.heap.size,5,none⟩)) 3 rfl rfl rfl (by kernel_rfl) (fun _ _ _ h=>h) (by rfl) hHeld ?_ ?_
  ·(intro W hW;(try dsimp only at hW);go_simp)
  try simp only [Act.put,List.setIfInBounds_toArray,List.set_cons_zero,List.set_cons_succ]
  refine tkq 1 (.slice (some ⟨g,0,none⟩) 2 c) 4 rfl rfl rfl (by kernel_rfl) (fun _ _ _ h=>h) (by rfl) hHeld ?_ ?_
  ·(intro W hW;(try dsimp only at hW);obtain ⟨c0,c1,c2,c3,c4,c5,_⟩:=X1.out.next hW;go_simp)
  try simp only [Act.put,List.setIfInBounds_toArray,List.set_cons_zero,List.set_cons_succ]
  refine tkq 2 (.pointer (some ⟨g,0,none⟩)) 5 rfl rfl rfl (by kernel_rfl) (fun _ _ _ h=>h) (by rfl) hHeld ?_ ?_
  ·(intro W hW;(try dsimp only at hW);go_simp)
  try simp only [Act.put,List.setIfInBounds_toArray,List.set_cons_zero,List.set_cons_succ]
  refine tkq 3 (.agg #[.string x.op,.string x.name,.int .i64 (x.kind:Nat),.int .i64 x.n,.int .i64 (x.pl:Nat),.slice a0 m0 c0]) 6 rfl rfl rfl (by kernel_rfl) (fun _ _ _ h=>h) (by rfl) hHeld ?_ ?_
  ·(intro W hW;(try dsimp only at hW);obtain ⟨k0,k1,k2,k3,k4,k5⟩:=N0.out.keep (hW.block g (World.block_lt_of_cell? _ _ N0.out.e0));go_simp)
  try simp only [Act.put,List.setIfInBounds_toArray,List.set_cons_zero,List.set_cons_succ]
  refine tkq 5 (.pointer (some ⟨w.heap.size,0,none⟩)) 8 rfl rfl rfl (by kernel_rfl) (fun _ _ _ h=>h) (by rfl) hHeld ?_ ?_
  ·(intro W hW;(try dsimp only at hW);go_simp)
  try simp only [Act.put,List.setIfInBounds_toArray,List.set_cons_zero,List.set_cons_succ]
  refine tkq 6 (.string ⟨#[97,110,100]⟩) 9 rfl rfl rfl (by kernel_rfl) (fun _ _ _ h=>h) (by rfl) hHeld ?_ ?_
  ·(intro W hW;(try dsimp only at hW);obtain ⟨c0,c1,c2,c3,c4,c5,_⟩:=X1.out.next hW;go_simp)
  try simp only [Act.put,List.setIfInBounds_toArray,List.set_cons_zero,List.set_cons_succ]
  refine tkq 7 (.bool false) 10 rfl rfl rfl (by kernel_rfl) (fun _ _ _ h=>h) (by rfl) hHeld ?_ ?_
  ·(intro W hW;(try dsimp only at hW);go_simp)
  try simp only [Act.put,List.setIfInBounds_toArray,List.set_cons_zero,List.set_cons_succ]
  refine wpAnyH_ready (rs:=[4]) (by kernel_rfl) (by simp) ?_
  refine cons2 rfl rfl (fun K9 hK=>?_)
  have KV:=hid (isTrue_any x (.slice a0 m0 c0) v0)
  rw [qq] at KV
  go_simp
  refine Calls.mono KV.out ?_
  rintro e9 v1 ⟨rfl,b7⟩
  clear KV
  have BN:=hid (nextB BB.out b7)
  clear b7
  go_wp2_with fail
  refine hK.out _ _ BN.out (fun hX=>?_)
  clear hK K9 hHeld
  have hHeld:=hX
  clear hX
  try simp only [Act.put,List.setIfInBounds_toArray,List.set_cons_zero,List.set_cons_succ]
  clear BB
  have BB:=BN
  clear BN
  refine tkq 8 (.bool false) 11 rfl rfl rfl (by kernel_rfl) (fun _ _ _ h=>h) (by rfl) hHeld ?_ ?_
  ·(intro W hW;(try dsimp only at hW);go_simp)
  try simp only [Act.put,List.setIfInBounds_toArray,List.set_cons_zero,List.set_cons_succ]
  refine wpAnyH_done (by kernel_rfl) ?_ _
  have B3:=hid (nextB A1.out BB.out)
  have Y1:=hid (X1.out.next BB.out)
  have Y2:=hid (X2.out.next BB.out)
  have H0:=hid (G0.out.any BB.out)
  have K0:=hid (N0.out.keep (BB.out.block g (World.block_lt_of_cell? _ _ N0.out.e0)))
  have H1:=hid (G1.out.any BB.out)
  have K1:=hid (N1.out.keep (BB.out.block g (World.block_lt_of_cell? _ _ N1.out.e0)))
  clear X1 X2 A1 N0 G0 N1 G1
  have S:=hid (Y2.out.sets (.string y.op) (.string y.name) (.int .i64 (y.kind:Nat)) (.int .i64 y.n) (.int .i64 (y.pl:Nat)) (.slice a1 m1 c1))
  have BF:=hid (Below.put6X B3.out (q:=p2) P3.out (.string y.op) (.string y.name) (.int .i64 (y.kind:Nat)) (.int .i64 y.n) (.int .i64 (y.pl:Nat)) (.slice a1 m1 c1))
  have HD3:=hid (H1.out.keep (S':=S0) fun g s l=>⟨s,heap6 _ p2 (.string y.op) (.string y.name) (.int .i64 (y.kind:Nat)) (.int .i64 y.n) (.int .i64 (y.pl:Nat)) (.slice a1 m1 c1) g (fun e=>HP.out g s e)⟩)
  obtain ⟨z0,z1,z2,z3,z4,z5,zf⟩:=Y2.out
  obtain ⟨c0,c1,c2,c3,c4,c5,_⟩:=Y1.out
  obtain ⟨k0,k1,k2,k3,k4,k5⟩:=K1.out
  go_wp2_with fail
  clear z0 z1 z2 z3 z4 z5 zf c0 c1 c2 c3 c4 c5 k0 k1 k2 k3 k4 k5
  generalize World.setCell _ ⟨p2,5,none⟩ _=wf at *
  obtain ⟨f0,f1,f2,f3,f4,f5,_⟩:=S.out
  try simp only [Exit.inBlock,Exit.then]
  exact bodyPost_ret (v:=.agg #[.string y.op,.string y.name,.int .i64 (y.kind:Nat),.int .i64 y.n,.int .i64 (y.pl:Nat),.slice a1 m1 c1]) (by simp [results,Tryd.results21,go_sem,f0,f1,f2,f3,f4,f5]) rfl ⟨_,rfl,⟨_,rfl,HD3.out⟩,BF.out⟩
 ·rw [show (if ¬ x.n=1 then x else y)=x from by simp [q]]
  have qq:=beqM _ _ q
  clear q
  obtain ⟨g,c,sl,rfl,hc,hk⟩:=hd.at2 (by simp)
  have C0:=hid (show NC w g 0 x (sl 0) from hc 0 x rfl)
  have D0:=hid (hk 0 x rfl)
  obtain ⟨a0,m0,c0,e0⟩:=D0.out.slice
  rw [e0] at C0 D0
  clear e0
  have C1:=hid (show NC w g 6 y (sl 1) from hc 1 y rfl)
  have D1:=hid (hk 1 y rfl)
  obtain ⟨a1,m1,c1,e1⟩:=D1.out.slice
  rw [e1] at C1 D1
  clear e1
  have sz1:(w.alloc (.cells #[.string ⟨#[97,110,100]⟩,.string nm,.int .i64 (kd:Nat),.int .i64 n,.int .i64 (pl:Nat),.slice (some ⟨g,0,none⟩) 2 c] 28)).heap.size=w.heap.size+1:=by simp
  have A1:=hid (show Below w.heap.size w ((w.alloc (.cells #[.string ⟨#[97,110,100]⟩,.string nm,.int .i64 (kd:Nat),.int .i64 n,.int .i64 (pl:Nat),.slice (some ⟨g,0,none⟩) 2 c] 28)).alloc (.cells #[.string ⟨#[]⟩,.string ⟨#[]⟩,.int .i64 0,.int .i64 0,.int .i64 0,.slice none 0 0] 28)) from ((Below.refl _ _).alloc (Nat.le_refl _) _).alloc (by simp) _)
  have X1:=hid (show B6 ((w.alloc (.cells #[.string ⟨#[97,110,100]⟩,.string nm,.int .i64 (kd:Nat),.int .i64 n,.int .i64 (pl:Nat),.slice (some ⟨g,0,none⟩) 2 c] 28)).alloc (.cells #[.string ⟨#[]⟩,.string ⟨#[]⟩,.int .i64 0,.int .i64 0,.int .i64 0,.slice none 0 0] 28)) w.heap.size (.string ⟨#[97,110,100]⟩) (.string nm) (.int .i64 (kd:Nat)) (.int .i64 n) (.int .i64 (pl:Nat)) (.slice (some ⟨g,0,none⟩) 2 c) from by
   have h:=(B6.new w 28 (.string ⟨#[97,110,100]⟩) (.string nm) (.int .i64 (kd:Nat)) (.int .i64 n) (.int .i64 (pl:Nat)) (.slice (some ⟨g,0,none⟩) 2 c)).next ((Below.refl _ _).alloc (Nat.le_refl _) (.cells #[.string ⟨#[]⟩,.string ⟨#[]⟩,.int .i64 0,.int .i64 0,.int .i64 0,.slice none 0 0] 28))
   exact h)
  have X2:=hid (show B6 ((w.alloc (.cells #[.string ⟨#[97,110,100]⟩,.string nm,.int .i64 (kd:Nat),.int .i64 n,.int .i64 (pl:Nat),.slice (some ⟨g,0,none⟩) 2 c] 28)).alloc (.cells #[.string ⟨#[]⟩,.string ⟨#[]⟩,.int .i64 0,.int .i64 0,.int .i64 0,.slice none 0 0] 28)) (w.heap.size+1) (.string ⟨#[]⟩) (.string ⟨#[]⟩) (.int .i64 0) (.int .i64 0) (.int .i64 0) (.slice none 0 0) from by
   have h:=B6.new (w.alloc (.cells #[.string ⟨#[97,110,100]⟩,.string nm,.int .i64 (kd:Nat),.int .i64 n,.int .i64 (pl:Nat),.slice (some ⟨g,0,none⟩) 2 c] 28)) 28 (.string ⟨#[]⟩) (.string ⟨#[]⟩) (.int .i64 0) (.int .i64 0) (.int .i64 0) (.slice none 0 0)
   rw [sz1] at h
   exact h)
  clear sz1
  have N0:=hid (C0.out.keep (A1.out.block g (World.block_lt_of_cell? _ _ C0.out.e0)))
  have G0:=hid (D0.out.any A1.out)
  have N1:=hid (C1.out.keep (A1.out.block g (World.block_lt_of_cell? _ _ C1.out.e0)))
  have G1:=hid (D1.out.any A1.out)
  have GLT:g<w.heap.size:=World.block_lt_of_cell? _ _ (hc 0 x rfl).e0
  clear hc hk hd C0 D0 C1 D1
  have HP:=hid (show ∀ h,S0 h→h≠w.heap.size+1 from fun h s e=>by have:=hS h s;omega)
  have GP:=hid (show g<w.heap.size from GLT)
  clear GLT hS
  go_enter Tryd.func21,Tryd.ntmps21
  go_upto_region 1 with fail
  generalize World.alloc (World.alloc w _) _=w1 at *
  have P3:=hid (show w.heap.size≤w.heap.size+1 by omega)
  have PX:=hid (show w.heap.size≠w.heap.size+1 by omega)
  generalize w.heap.size+1=p2 at *
  refine wp_region_held_drew (S:=fun W=>Below w1.heap.size w1 W) (by kernel_rfl) (Below.refl _ _).drew (fun hHeld=>?_)
  have BB:=hid (show Below w1.heap.size w1 w1.drew from (Below.refl _ _).drew)
  generalize w1.drew=v0 at *
  refine tkq 0 (.pointer (some ⟨w.heap.size,5,none⟩)) 3 rfl rfl rfl (by kernel_rfl) (fun _ _ _ h=>h) (by rfl) hHeld ?_ ?_
  ·(intro W hW;(try dsimp only at hW);go_simp)
  try simp only [Act.put,List.setIfInBounds_toArray,List.set_cons_zero,List.set_cons_succ]
  refine tkq 1 (.slice (some ⟨g,0,none⟩) 2 c) 4 rfl rfl rfl (by kernel_rfl) (fun _ _ _ h=>h) (by rfl) hHeld ?_ ?_
  ·(intro W hW;(try dsimp only at hW);obtain ⟨c0,c1,c2,c3,c4,c5,_⟩:=X1.out.next hW;go_simp)
  try simp only [Act.put,List.setIfInBounds_toArray,List.set_cons_zero,List.set_cons_succ]
  refine tkq 2 (.pointer (some ⟨g,0,none⟩)) 5 rfl rfl rfl (by kernel_rfl) (fun _ _ _ h=>h) (by rfl) hHeld ?_ ?_
  ·(intro W hW;(try dsimp only at hW);go_simp)
  try simp only [Act.put,List.setIfInBounds_toArray,List.set_cons_zero,List.set_cons_succ]
  refine tkq 3 (.agg #[.string x.op,.string x.name,.int .i64 (x.kind:Nat),.int .i64 x.n,.int .i64 (x.pl:Nat),.slice a0 m0 c0]) 6 rfl rfl rfl (by kernel_rfl) (fun _ _ _ h=>h) (by rfl) hHeld ?_ ?_
  ·(intro W hW;(try dsimp only at hW);obtain ⟨k0,k1,k2,k3,k4,k5⟩:=N0.out.keep (hW.block g (World.block_lt_of_cell? _ _ N0.out.e0));go_simp)
  try simp only [Act.put,List.setIfInBounds_toArray,List.set_cons_zero,List.set_cons_succ]
  refine tkq 5 (.pointer (some ⟨w.heap.size,0,none⟩)) 8 rfl rfl rfl (by kernel_rfl) (fun _ _ _ h=>h) (by rfl) hHeld ?_ ?_
  ·(intro W hW;(try dsimp only at hW);go_simp)
  try simp only [Act.put,List.setIfInBounds_toArray,List.set_cons_zero,List.set_cons_succ]
  refine tkq 6 (.string ⟨#[97,110,100]⟩) 9 rfl rfl rfl (by kernel_rfl) (fun _ _ _ h=>h) (by rfl) hHeld ?_ ?_
  ·(intro W hW;(try dsimp only at hW);obtain ⟨c0,c1,c2,c3,c4,c5,_⟩:=X1.out.next hW;go_simp)
  try simp only [Act.put,List.setIfInBounds_toArray,List.set_cons_zero,List.set_cons_succ]
  refine tkq 7 (.bool false) 10 rfl rfl rfl (by kernel_rfl) (fun _ _ _ h=>h) (by rfl) hHeld ?_ ?_
  ·(intro W hW;(try dsimp only at hW);go_simp)
  try simp only [Act.put,List.setIfInBounds_toArray,List.set_cons_zero,List.set_cons_succ]
  refine wpAnyH_ready (rs:=[4]) (by kernel_rfl) (by simp) ?_
  refine cons2 rfl rfl (fun K9 hK=>?_)
  have KV:=hid (isTrue_any x (.slice a0 m0 c0) v0)
  rw [qq] at KV
  go_simp
  refine Calls.mono KV.out ?_
  rintro e9 v1 ⟨rfl,b7⟩
  clear KV
  have BN:=hid (nextB BB.out b7)
  clear b7
  go_wp2_with fail
  refine hK.out _ _ BN.out (fun hX=>?_)
  clear hK K9 hHeld
  have hHeld:=hX
  clear hX
  try simp only [Act.put,List.setIfInBounds_toArray,List.set_cons_zero,List.set_cons_succ]
  clear BB
  have BB:=BN
  clear BN
  refine tkq 8 (.bool true) 11 rfl rfl rfl (by kernel_rfl) (fun _ _ _ h=>h) (by rfl) hHeld ?_ ?_
  ·(intro W hW;(try dsimp only at hW);go_simp)
  try simp only [Act.put,List.setIfInBounds_toArray,List.set_cons_zero,List.set_cons_succ]
  refine wpAnyH_done (by kernel_rfl) ?_ _
  have B3:=hid (nextB A1.out BB.out)
  have Y1:=hid (X1.out.next BB.out)
  have Y2:=hid (X2.out.next BB.out)
  have H0:=hid (G0.out.any BB.out)
  have K0:=hid (N0.out.keep (BB.out.block g (World.block_lt_of_cell? _ _ N0.out.e0)))
  have H1:=hid (G1.out.any BB.out)
  have K1:=hid (N1.out.keep (BB.out.block g (World.block_lt_of_cell? _ _ N1.out.e0)))
  clear X1 X2 A1 N0 G0 N1 G1
  have S:=hid (Y2.out.sets (.string x.op) (.string x.name) (.int .i64 (x.kind:Nat)) (.int .i64 x.n) (.int .i64 (x.pl:Nat)) (.slice a0 m0 c0))
  have BF:=hid (Below.put6X B3.out (q:=p2) P3.out (.string x.op) (.string x.name) (.int .i64 (x.kind:Nat)) (.int .i64 x.n) (.int .i64 (x.pl:Nat)) (.slice a0 m0 c0))
  have HD3:=hid (H0.out.keep (S':=S0) fun g s l=>⟨s,heap6 _ p2 (.string x.op) (.string x.name) (.int .i64 (x.kind:Nat)) (.int .i64 x.n) (.int .i64 (x.pl:Nat)) (.slice a0 m0 c0) g (fun e=>HP.out g s e)⟩)
  obtain ⟨z0,z1,z2,z3,z4,z5,zf⟩:=Y2.out
  obtain ⟨c0,c1,c2,c3,c4,c5,_⟩:=Y1.out
  obtain ⟨k0,k1,k2,k3,k4,k5⟩:=K0.out
  go_wp2_with fail
  clear z0 z1 z2 z3 z4 z5 zf c0 c1 c2 c3 c4 c5 k0 k1 k2 k3 k4 k5
  generalize World.setCell _ ⟨p2,5,none⟩ _=wf at *
  obtain ⟨f0,f1,f2,f3,f4,f5,_⟩:=S.out
  try simp only [Exit.inBlock,Exit.then]
  exact bodyPost_ret (v:=.agg #[.string x.op,.string x.name,.int .i64 (x.kind:Nat),.int .i64 x.n,.int .i64 (x.pl:Nat),.slice a0 m0 c0]) (by simp [results,Tryd.results21,go_sem,f0,f1,f2,f3,f4,f5]) rfl ⟨_,rfl,⟨_,rfl,HD3.out⟩,BF.out⟩
set_option maxRecDepth 100000 in
set_option maxHeartbeats 8000000 in
theorem conn_or (nm:ByteArray) (kd:Nat) (n:Int) (pl:Nat) (x y:Tr) (se:Value) (S0:Nat→Prop) (w:World) (hS:∀ g,S0 g→g<w.heap.size) (hd:Nd w S0 se [x,y]) :
  Calls Tryd.prog 21 #[.agg #[.string ⟨#[111,114]⟩,.string nm,.int .i64 (kd:Nat),.int .i64 n,.int .i64 (pl:Nat),se]] w fun e' w'=>∃ v,e'=.returned v∧Nv w' S0 v (if x.n=1 then x else y)∧Below w.heap.size w w':=by
 by_cases q:x.n=1
 ·rw [show (if x.n=1 then x else y)=x from by simp [q]]
  have qq:=eqM _ _ q
  clear q
  obtain ⟨g,c,sl,rfl,hc,hk⟩:=hd.at2 (by simp)
  have C0:=hid (show NC w g 0 x (sl 0) from hc 0 x rfl)
  have D0:=hid (hk 0 x rfl)
  obtain ⟨a0,m0,c0,e0⟩:=D0.out.slice
  rw [e0] at C0 D0
  clear e0
  have C1:=hid (show NC w g 6 y (sl 1) from hc 1 y rfl)
  have D1:=hid (hk 1 y rfl)
  obtain ⟨a1,m1,c1,e1⟩:=D1.out.slice
  rw [e1] at C1 D1
  clear e1
  have sz1:(w.alloc (.cells #[.string ⟨#[111,114]⟩,.string nm,.int .i64 (kd:Nat),.int .i64 n,.int .i64 (pl:Nat),.slice (some ⟨g,0,none⟩) 2 c] 28)).heap.size=w.heap.size+1:=by simp
  have A1:=hid (show Below w.heap.size w ((w.alloc (.cells #[.string ⟨#[111,114]⟩,.string nm,.int .i64 (kd:Nat),.int .i64 n,.int .i64 (pl:Nat),.slice (some ⟨g,0,none⟩) 2 c] 28)).alloc (.cells #[.string ⟨#[]⟩,.string ⟨#[]⟩,.int .i64 0,.int .i64 0,.int .i64 0,.slice none 0 0] 28)) from ((Below.refl _ _).alloc (Nat.le_refl _) _).alloc (by simp) _)
  have X1:=hid (show B6 ((w.alloc (.cells #[.string ⟨#[111,114]⟩,.string nm,.int .i64 (kd:Nat),.int .i64 n,.int .i64 (pl:Nat),.slice (some ⟨g,0,none⟩) 2 c] 28)).alloc (.cells #[.string ⟨#[]⟩,.string ⟨#[]⟩,.int .i64 0,.int .i64 0,.int .i64 0,.slice none 0 0] 28)) w.heap.size (.string ⟨#[111,114]⟩) (.string nm) (.int .i64 (kd:Nat)) (.int .i64 n) (.int .i64 (pl:Nat)) (.slice (some ⟨g,0,none⟩) 2 c) from by
   have h:=(B6.new w 28 (.string ⟨#[111,114]⟩) (.string nm) (.int .i64 (kd:Nat)) (.int .i64 n) (.int .i64 (pl:Nat)) (.slice (some ⟨g,0,none⟩) 2 c)).next ((Below.refl _ _).alloc (Nat.le_refl _) (.cells #[.string ⟨#[]⟩,.string ⟨#[]⟩,.int .i64 0,.int .i64 0,.int .i64 0,.slice none 0 0] 28))
   exact h)
  have X2:=hid (show B6 ((w.alloc (.cells #[.string ⟨#[111,114]⟩,.string nm,.int .i64 (kd:Nat),.int .i64 n,.int .i64 (pl:Nat),.slice (some ⟨g,0,none⟩) 2 c] 28)).alloc (.cells #[.string ⟨#[]⟩,.string ⟨#[]⟩,.int .i64 0,.int .i64 0,.int .i64 0,.slice none 0 0] 28)) (w.heap.size+1) (.string ⟨#[]⟩) (.string ⟨#[]⟩) (.int .i64 0) (.int .i64 0) (.int .i64 0) (.slice none 0 0) from by
   have h:=B6.new (w.alloc (.cells #[.string ⟨#[111,114]⟩,.string nm,.int .i64 (kd:Nat),.int .i64 n,.int .i64 (pl:Nat),.slice (some ⟨g,0,none⟩) 2 c] 28)) 28 (.string ⟨#[]⟩) (.string ⟨#[]⟩) (.int .i64 0) (.int .i64 0) (.int .i64 0) (.slice none 0 0)
   rw [sz1] at h
   exact h)
  clear sz1
  have N0:=hid (C0.out.keep (A1.out.block g (World.block_lt_of_cell? _ _ C0.out.e0)))
  have G0:=hid (D0.out.any A1.out)
  have N1:=hid (C1.out.keep (A1.out.block g (World.block_lt_of_cell? _ _ C1.out.e0)))
  have G1:=hid (D1.out.any A1.out)
  have GLT:g<w.heap.size:=World.block_lt_of_cell? _ _ (hc 0 x rfl).e0
  clear hc hk hd C0 D0 C1 D1
  have HP:=hid (show ∀ h,S0 h→h≠w.heap.size+1 from fun h s e=>by have:=hS h s;omega)
  have GP:=hid (show g<w.heap.size from GLT)
  clear GLT hS
  go_enter Tryd.func21,Tryd.ntmps21
  go_upto_region 1 with fail
  generalize World.alloc (World.alloc w _) _=w1 at *
  have P3:=hid (show w.heap.size≤w.heap.size+1 by omega)
  have PX:=hid (show w.heap.size≠w.heap.size+1 by omega)
  generalize w.heap.size+1=p2 at *
  refine wp_region_held_drew (S:=fun W=>Below w1.heap.size w1 W) (by kernel_rfl) (Below.refl _ _).drew (fun hHeld=>?_)
  have BB:=hid (show Below w1.heap.size w1 w1.drew from (Below.refl _ _).drew)
  generalize w1.drew=v0 at *
  refine tkq 0 (.pointer (some ⟨w.heap.size,5,none⟩)) 3 rfl rfl rfl (by kernel_rfl) (fun _ _ _ h=>h) (by rfl) hHeld ?_ ?_
  ·(intro W hW;(try dsimp only at hW);go_simp)
  try simp only [Act.put,List.setIfInBounds_toArray,List.set_cons_zero,List.set_cons_succ]
  refine tkq 1 (.slice (some ⟨g,0,none⟩) 2 c) 4 rfl rfl rfl (by kernel_rfl) (fun _ _ _ h=>h) (by rfl) hHeld ?_ ?_
  ·(intro W hW;(try dsimp only at hW);obtain ⟨c0,c1,c2,c3,c4,c5,_⟩:=X1.out.next hW;go_simp)
  try simp only [Act.put,List.setIfInBounds_toArray,List.set_cons_zero,List.set_cons_succ]
  refine tkq 2 (.pointer (some ⟨g,0,none⟩)) 5 rfl rfl rfl (by kernel_rfl) (fun _ _ _ h=>h) (by rfl) hHeld ?_ ?_
  ·(intro W hW;(try dsimp only at hW);go_simp)
  try simp only [Act.put,List.setIfInBounds_toArray,List.set_cons_zero,List.set_cons_succ]
  refine tkq 3 (.agg #[.string x.op,.string x.name,.int .i64 (x.kind:Nat),.int .i64 x.n,.int .i64 (x.pl:Nat),.slice a0 m0 c0]) 6 rfl rfl rfl (by kernel_rfl) (fun _ _ _ h=>h) (by rfl) hHeld ?_ ?_
  ·(intro W hW;(try dsimp only at hW);obtain ⟨k0,k1,k2,k3,k4,k5⟩:=N0.out.keep (hW.block g (World.block_lt_of_cell? _ _ N0.out.e0));go_simp)
  try simp only [Act.put,List.setIfInBounds_toArray,List.set_cons_zero,List.set_cons_succ]
  refine tkq 5 (.pointer (some ⟨w.heap.size,0,none⟩)) 8 rfl rfl rfl (by kernel_rfl) (fun _ _ _ h=>h) (by rfl) hHeld ?_ ?_
  ·(intro W hW;(try dsimp only at hW);go_simp)
  try simp only [Act.put,List.setIfInBounds_toArray,List.set_cons_zero,List.set_cons_succ]
  refine tkq 6 (.string ⟨#[111,114]⟩) 9 rfl rfl rfl (by kernel_rfl) (fun _ _ _ h=>h) (by rfl) hHeld ?_ ?_
  ·(intro W hW;(try dsimp only at hW);obtain ⟨c0,c1,c2,c3,c4,c5,_⟩:=X1.out.next hW;go_simp)
  try simp only [Act.put,List.setIfInBounds_toArray,List.set_cons_zero,List.set_cons_succ]
  refine tkq 7 (.bool true) 10 rfl rfl rfl (by kernel_rfl) (fun _ _ _ h=>h) (by rfl) hHeld ?_ ?_
  ·(intro W hW;(try dsimp only at hW);go_simp)
  try simp only [Act.put,List.setIfInBounds_toArray,List.set_cons_zero,List.set_cons_succ]
  refine wpAnyH_ready (rs:=[4]) (by kernel_rfl) (by simp) ?_
  refine cons2 rfl rfl (fun K9 hK=>?_)
  have KV:=hid (isTrue_any x (.slice a0 m0 c0) v0)
  rw [qq] at KV
  go_simp
  refine Calls.mono KV.out ?_
  rintro e9 v1 ⟨rfl,b7⟩
  clear KV
  have BN:=hid (nextB BB.out b7)
  clear b7
  go_wp2_with fail
  refine hK.out _ _ BN.out (fun hX=>?_)
  clear hK K9 hHeld
  have hHeld:=hX
  clear hX
  try simp only [Act.put,List.setIfInBounds_toArray,List.set_cons_zero,List.set_cons_succ]
  clear BB
  have BB:=BN
  clear BN
  refine tkq 8 (.bool true) 11 rfl rfl rfl (by kernel_rfl) (fun _ _ _ h=>h) (by rfl) hHeld ?_ ?_
  ·(intro W hW;(try dsimp only at hW);go_simp)
  try simp only [Act.put,List.setIfInBounds_toArray,List.set_cons_zero,List.set_cons_succ]
  refine wpAnyH_done (by kernel_rfl) ?_ _
  have B3:=hid (nextB A1.out BB.out)
  have Y1:=hid (X1.out.next BB.out)
  have Y2:=hid (X2.out.next BB.out)
  have H0:=hid (G0.out.any BB.out)
  have K0:=hid (N0.out.keep (BB.out.block g (World.block_lt_of_cell? _ _ N0.out.e0)))
  have H1:=hid (G1.out.any BB.out)
  have K1:=hid (N1.out.keep (BB.out.block g (World.block_lt_of_cell? _ _ N1.out.e0)))
  clear X1 X2 A1 N0 G0 N1 G1
  have S:=hid (Y2.out.sets (.string x.op) (.string x.name) (.int .i64 (x.kind:Nat)) (.int .i64 x.n) (.int .i64 (x.pl:Nat)) (.slice a0 m0 c0))
  have BF:=hid (Below.put6X B3.out (q:=p2) P3.out (.string x.op) (.string x.name) (.int .i64 (x.kind:Nat)) (.int .i64 x.n) (.int .i64 (x.pl:Nat)) (.slice a0 m0 c0))
  have HD3:=hid (H0.out.keep (S':=S0) fun g s l=>⟨s,heap6 _ p2 (.string x.op) (.string x.name) (.int .i64 (x.kind:Nat)) (.int .i64 x.n) (.int .i64 (x.pl:Nat)) (.slice a0 m0 c0) g (fun e=>HP.out g s e)⟩)
  obtain ⟨z0,z1,z2,z3,z4,z5,zf⟩:=Y2.out
  obtain ⟨c0,c1,c2,c3,c4,c5,_⟩:=Y1.out
  obtain ⟨k0,k1,k2,k3,k4,k5⟩:=K0.out
  go_wp2_with fail
  clear z0 z1 z2 z3 z4 z5 zf c0 c1 c2 c3 c4 c5 k0 k1 k2 k3 k4 k5
  generalize World.setCell _ ⟨p2,5,none⟩ _=wf at *
  obtain ⟨f0,f1,f2,f3,f4,f5,_⟩:=S.out
  try simp only [Exit.inBlock,Exit.then]
  exact bodyPost_ret (v:=.agg #[.string x.op,.string x.name,.int .i64 (x.kind:Nat),.int .i64 x.n,.int .i64 (x.pl:Nat),.slice a0 m0 c0]) (by simp [results,Tryd.results21,go_sem,f0,f1,f2,f3,f4,f5]) rfl ⟨_,rfl,⟨_,rfl,HD3.out⟩,BF.out⟩
 ·rw [show (if x.n=1 then x else y)=y from by simp [q]]
  have qq:=beqM _ _ q
  clear q
  obtain ⟨g,c,sl,rfl,hc,hk⟩:=hd.at2 (by simp)
  have C0:=hid (show NC w g 0 x (sl 0) from hc 0 x rfl)
  have D0:=hid (hk 0 x rfl)
  obtain ⟨a0,m0,c0,e0⟩:=D0.out.slice
  rw [e0] at C0 D0
  clear e0
  have C1:=hid (show NC w g 6 y (sl 1) from hc 1 y rfl)
  have D1:=hid (hk 1 y rfl)
  obtain ⟨a1,m1,c1,e1⟩:=D1.out.slice
  rw [e1] at C1 D1
  clear e1
  have sz1:(w.alloc (.cells #[.string ⟨#[111,114]⟩,.string nm,.int .i64 (kd:Nat),.int .i64 n,.int .i64 (pl:Nat),.slice (some ⟨g,0,none⟩) 2 c] 28)).heap.size=w.heap.size+1:=by simp
  have A1:=hid (show Below w.heap.size w ((w.alloc (.cells #[.string ⟨#[111,114]⟩,.string nm,.int .i64 (kd:Nat),.int .i64 n,.int .i64 (pl:Nat),.slice (some ⟨g,0,none⟩) 2 c] 28)).alloc (.cells #[.string ⟨#[]⟩,.string ⟨#[]⟩,.int .i64 0,.int .i64 0,.int .i64 0,.slice none 0 0] 28)) from ((Below.refl _ _).alloc (Nat.le_refl _) _).alloc (by simp) _)
  have X1:=hid (show B6 ((w.alloc (.cells #[.string ⟨#[111,114]⟩,.string nm,.int .i64 (kd:Nat),.int .i64 n,.int .i64 (pl:Nat),.slice (some ⟨g,0,none⟩) 2 c] 28)).alloc (.cells #[.string ⟨#[]⟩,.string ⟨#[]⟩,.int .i64 0,.int .i64 0,.int .i64 0,.slice none 0 0] 28)) w.heap.size (.string ⟨#[111,114]⟩) (.string nm) (.int .i64 (kd:Nat)) (.int .i64 n) (.int .i64 (pl:Nat)) (.slice (some ⟨g,0,none⟩) 2 c) from by
   have h:=(B6.new w 28 (.string ⟨#[111,114]⟩) (.string nm) (.int .i64 (kd:Nat)) (.int .i64 n) (.int .i64 (pl:Nat)) (.slice (some ⟨g,0,none⟩) 2 c)).next ((Below.refl _ _).alloc (Nat.le_refl _) (.cells #[.string ⟨#[]⟩,.string ⟨#[]⟩,.int .i64 0,.int .i64 0,.int .i64 0,.slice none 0 0] 28))
   exact h)
  have X2:=hid (show B6 ((w.alloc (.cells #[.string ⟨#[111,114]⟩,.string nm,.int .i64 (kd:Nat),.int .i64 n,.int .i64 (pl:Nat),.slice (some ⟨g,0,none⟩) 2 c] 28)).alloc (.cells #[.string ⟨#[]⟩,.string ⟨#[]⟩,.int .i64 0,.int .i64 0,.int .i64 0,.slice none 0 0] 28)) (w.heap.size+1) (.string ⟨#[]⟩) (.string ⟨#[]⟩) (.int .i64 0) (.int .i64 0) (.int .i64 0) (.slice none 0 0) from by
   have h:=B6.new (w.alloc (.cells #[.string ⟨#[111,114]⟩,.string nm,.int .i64 (kd:Nat),.int .i64 n,.int .i64 (pl:Nat),.slice (some ⟨g,0,none⟩) 2 c] 28)) 28 (.string ⟨#[]⟩) (.string ⟨#[]⟩) (.int .i64 0) (.int .i64 0) (.int .i64 0) (.slice none 0 0)
   rw [sz1] at h
   exact h)
  clear sz1
  have N0:=hid (C0.out.keep (A1.out.block g (World.block_lt_of_cell? _ _ C0.out.e0)))
  have G0:=hid (D0.out.any A1.out)
  have N1:=hid (C1.out.keep (A1.out.block g (World.block_lt_of_cell? _ _ C1.out.e0)))
  have G1:=hid (D1.out.any A1.out)
  have GLT:g<w.heap.size:=World.block_lt_of_cell? _ _ (hc 0 x rfl).e0
  clear hc hk hd C0 D0 C1 D1
  have HP:=hid (show ∀ h,S0 h→h≠w.heap.size+1 from fun h s e=>by have:=hS h s;omega)
  have GP:=hid (show g<w.heap.size from GLT)
  clear GLT hS
  go_enter Tryd.func21,Tryd.ntmps21
  go_upto_region 1 with fail
  generalize World.alloc (World.alloc w _) _=w1 at *
  have P3:=hid (show w.heap.size≤w.heap.size+1 by omega)
  have PX:=hid (show w.heap.size≠w.heap.size+1 by omega)
  generalize w.heap.size+1=p2 at *
  refine wp_region_held_drew (S:=fun W=>Below w1.heap.size w1 W) (by kernel_rfl) (Below.refl _ _).drew (fun hHeld=>?_)
  have BB:=hid (show Below w1.heap.size w1 w1.drew from (Below.refl _ _).drew)
  generalize w1.drew=v0 at *
  refine tkq 0 (.pointer (some ⟨w.heap.size,5,none⟩)) 3 rfl rfl rfl (by kernel_rfl) (fun _ _ _ h=>h) (by rfl) hHeld ?_ ?_
  ·(intro W hW;(try dsimp only at hW);go_simp)
  try simp only [Act.put,List.setIfInBounds_toArray,List.set_cons_zero,List.set_cons_succ]
  refine tkq 1 (.slice (some ⟨g,0,none⟩) 2 c) 4 rfl rfl rfl (by kernel_rfl) (fun _ _ _ h=>h) (by rfl) hHeld ?_ ?_
  ·(intro W hW;(try dsimp only at hW);obtain ⟨c0,c1,c2,c3,c4,c5,_⟩:=X1.out.next hW;go_simp)
  try simp only [Act.put,List.setIfInBounds_toArray,List.set_cons_zero,List.set_cons_succ]
  refine tkq 2 (.pointer (some ⟨g,0,none⟩)) 5 rfl rfl rfl (by kernel_rfl) (fun _ _ _ h=>h) (by rfl) hHeld ?_ ?_
  ·(intro W hW;(try dsimp only at hW);go_simp)
  try simp only [Act.put,List.setIfInBounds_toArray,List.set_cons_zero,List.set_cons_succ]
  refine tkq 3 (.agg #[.string x.op,.string x.name,.int .i64 (x.kind:Nat),.int .i64 x.n,.int .i64 (x.pl:Nat),.slice a0 m0 c0]) 6 rfl rfl rfl (by kernel_rfl) (fun _ _ _ h=>h) (by rfl) hHeld ?_ ?_
  ·(intro W hW;(try dsimp only at hW);obtain ⟨k0,k1,k2,k3,k4,k5⟩:=N0.out.keep (hW.block g (World.block_lt_of_cell? _ _ N0.out.e0));go_simp)
  try simp only [Act.put,List.setIfInBounds_toArray,List.set_cons_zero,List.set_cons_succ]
  refine tkq 5 (.pointer (some ⟨w.heap.size,0,none⟩)) 8 rfl rfl rfl (by kernel_rfl) (fun _ _ _ h=>h) (by rfl) hHeld ?_ ?_
  ·(intro W hW;(try dsimp only at hW);go_simp)
  try simp only [Act.put,List.setIfInBounds_toArray,List.set_cons_zero,List.set_cons_succ]
  refine tkq 6 (.string ⟨#[111,114]⟩) 9 rfl rfl rfl (by kernel_rfl) (fun _ _ _ h=>h) (by rfl) hHeld ?_ ?_
  ·(intro W hW;(try dsimp only at hW);obtain ⟨c0,c1,c2,c3,c4,c5,_⟩:=X1.out.next hW;go_simp)
  try simp only [Act.put,List.setIfInBounds_toArray,List.set_cons_zero,List.set_cons_succ]
  refine tkq 7 (.bool true) 10 rfl rfl rfl (by kernel_rfl) (fun _ _ _ h=>h) (by rfl) hHeld ?_ ?_
  ·(intro W hW;(try dsimp only at hW);go_simp)
  try simp only [Act.put,List.setIfInBounds_toArray,List.set_cons_zero,List.set_cons_succ]
  refine wpAnyH_ready (rs:=[4]) (by kernel_rfl) (by simp) ?_
  refine cons2 rfl rfl (fun K9 hK=>?_)
  have KV:=hid (isTrue_any x (.slice a0 m0 c0) v0)
  rw [qq] at KV
  go_simp
  refine Calls.mono KV.out ?_
  rintro e9 v1 ⟨rfl,b7⟩
  clear KV
  have BN:=hid (nextB BB.out b7)
  clear b7
  go_wp2_with fail
  refine hK.out _ _ BN.out (fun hX=>?_)
  clear hK K9 hHeld
  have hHeld:=hX
  clear hX
  try simp only [Act.put,List.setIfInBounds_toArray,List.set_cons_zero,List.set_cons_succ]
  clear BB
  have BB:=BN
  clear BN
  refine tkq 8 (.bool false) 11 rfl rfl rfl (by kernel_rfl) (fun _ _ _ h=>h) (by rfl) hHeld ?_ ?_
  ·(intro W hW;(try dsimp only at hW);go_simp)
  try simp only [Act.put,List.setIfInBounds_toArray,List.set_cons_zero,List.set_cons_succ]
  refine wpAnyH_done (by kernel_rfl) ?_ _
  have B3:=hid (nextB A1.out BB.out)
  have Y1:=hid (X1.out.next BB.out)
  have Y2:=hid (X2.out.next BB.out)
  have H0:=hid (G0.out.any BB.out)
  have K0:=hid (N0.out.keep (BB.out.block g (World.block_lt_of_cell? _ _ N0.out.e0)))
  have H1:=hid (G1.out.any BB.out)
  have K1:=hid (N1.out.keep (BB.out.block g (World.block_lt_of_cell? _ _ N1.out.e0)))
  clear X1 X2 A1 N0 G0 N1 G1
  have S:=hid (Y2.out.sets (.string y.op) (.string y.name) (.int .i64 (y.kind:Nat)) (.int .i64 y.n) (.int .i64 (y.pl:Nat)) (.slice a1 m1 c1))
  have BF:=hid (Below.put6X B3.out (q:=p2) P3.out (.string y.op) (.string y.name) (.int .i64 (y.kind:Nat)) (.int .i64 y.n) (.int .i64 (y.pl:Nat)) (.slice a1 m1 c1))
  have HD3:=hid (H1.out.keep (S':=S0) fun g s l=>⟨s,heap6 _ p2 (.string y.op) (.string y.name) (.int .i64 (y.kind:Nat)) (.int .i64 y.n) (.int .i64 (y.pl:Nat)) (.slice a1 m1 c1) g (fun e=>HP.out g s e)⟩)
  obtain ⟨z0,z1,z2,z3,z4,z5,zf⟩:=Y2.out
  obtain ⟨c0,c1,c2,c3,c4,c5,_⟩:=Y1.out
  obtain ⟨k0,k1,k2,k3,k4,k5⟩:=K1.out
  go_wp2_with fail
  clear z0 z1 z2 z3 z4 z5 zf c0 c1 c2 c3 c4 c5 k0 k1 k2 k3 k4 k5
  generalize World.setCell _ ⟨p2,5,none⟩ _=wf at *
  obtain ⟨f0,f1,f2,f3,f4,f5,_⟩:=S.out
  try simp only [Exit.inBlock,Exit.then]
  exact bodyPost_ret (v:=.agg #[.string y.op,.string y.name,.int .i64 (y.kind:Nat),.int .i64 y.n,.int .i64 (y.pl:Nat),.slice a1 m1 c1]) (by simp [results,Tryd.results21,go_sem,f0,f1,f2,f3,f4,f5]) rfl ⟨_,rfl,⟨_,rfl,HD3.out⟩,BF.out⟩
set_option maxRecDepth 100000 in
set_option maxHeartbeats 8000000 in
theorem chos_any (op nm:ByteArray) (kd:Nat) (n:Int) (pl:Nat) (x y z:Tr) (se:Value) (S0:Nat→Prop) (w:World) (hS:∀ g,S0 g→g<w.heap.size) (hd:Nd w S0 se [x,y,z]) :
  Calls Tryd.prog 22 #[.agg #[.string op,.string nm,.int .i64 (kd:Nat),.int .i64 n,.int .i64 (pl:Nat),se]] w fun e' w'=>∃ v,e'=.returned v∧Nv w' S0 v (if x.n=1 then y else z)∧Below w.heap.size w w':=by
 by_cases q:x.n=1
 ·rw [show (if x.n=1 then y else z)=y from by simp [q]]
  have qq:=eqM _ _ q
  clear q
  obtain ⟨g,c,sl,rfl,hc,hk⟩:=hd.at2 (by simp)
  have C0:=hid (show NC w g 0 x (sl 0) from hc 0 x rfl)
  have D0:=hid (hk 0 x rfl)
  obtain ⟨a0,m0,c0,e0⟩:=D0.out.slice
  rw [e0] at C0 D0
  clear e0
  have C1:=hid (show NC w g 6 y (sl 1) from hc 1 y rfl)
  have D1:=hid (hk 1 y rfl)
  obtain ⟨a1,m1,c1,e1⟩:=D1.out.slice
  rw [e1] at C1 D1
  clear e1
  have C2:=hid (show NC w g 12 z (sl 2) from hc 2 z rfl)
  have D2:=hid (hk 2 z rfl)
  obtain ⟨a2,m2,c2,e2⟩:=D2.out.slice
  rw [e2] at C2 D2
  clear e2
  have sz1:(w.alloc (.cells #[.string op,.string nm,.int .i64 (kd:Nat),.int .i64 n,.int .i64 (pl:Nat),.slice (some ⟨g,0,none⟩) 3 c] 28)).heap.size=w.heap.size+1:=by simp
  have A1:=hid (show Below w.heap.size w ((w.alloc (.cells #[.string op,.string nm,.int .i64 (kd:Nat),.int .i64 n,.int .i64 (pl:Nat),.slice (some ⟨g,0,none⟩) 3 c] 28)).alloc (.cells #[.string ⟨#[]⟩,.string ⟨#[]⟩,.int .i64 0,.int .i64 0,.int .i64 0,.slice none 0 0] 28)) from ((Below.refl _ _).alloc (Nat.le_refl _) _).alloc (by simp) _)
  have X1:=hid (show B6 ((w.alloc (.cells #[.string op,.string nm,.int .i64 (kd:Nat),.int .i64 n,.int .i64 (pl:Nat),.slice (some ⟨g,0,none⟩) 3 c] 28)).alloc (.cells #[.string ⟨#[]⟩,.string ⟨#[]⟩,.int .i64 0,.int .i64 0,.int .i64 0,.slice none 0 0] 28)) w.heap.size (.string op) (.string nm) (.int .i64 (kd:Nat)) (.int .i64 n) (.int .i64 (pl:Nat)) (.slice (some ⟨g,0,none⟩) 3 c) from by
   have h:=(B6.new w 28 (.string op) (.string nm) (.int .i64 (kd:Nat)) (.int .i64 n) (.int .i64 (pl:Nat)) (.slice (some ⟨g,0,none⟩) 3 c)).next ((Below.refl _ _).alloc (Nat.le_refl _) (.cells #[.string ⟨#[]⟩,.string ⟨#[]⟩,.int .i64 0,.int .i64 0,.int .i64 0,.slice none 0 0] 28))
   exact h)
  have X2:=hid (show B6 ((w.alloc (.cells #[.string op,.string nm,.int .i64 (kd:Nat),.int .i64 n,.int .i64 (pl:Nat),.slice (some ⟨g,0,none⟩) 3 c] 28)).alloc (.cells #[.string ⟨#[]⟩,.string ⟨#[]⟩,.int .i64 0,.int .i64 0,.int .i64 0,.slice none 0 0] 28)) (w.heap.size+1) (.string ⟨#[]⟩) (.string ⟨#[]⟩) (.int .i64 0) (.int .i64 0) (.int .i64 0) (.slice none 0 0) from by
   have h:=B6.new (w.alloc (.cells #[.string op,.string nm,.int .i64 (kd:Nat),.int .i64 n,.int .i64 (pl:Nat),.slice (some ⟨g,0,none⟩) 3 c] 28)) 28 (.string ⟨#[]⟩) (.string ⟨#[]⟩) (.int .i64 0) (.int .i64 0) (.int .i64 0) (.slice none 0 0)
   rw [sz1] at h
   exact h)
  clear sz1
  have N0:=hid (C0.out.keep (A1.out.block g (World.block_lt_of_cell? _ _ C0.out.e0)))
  have G0:=hid (D0.out.any A1.out)
  have N1:=hid (C1.out.keep (A1.out.block g (World.block_lt_of_cell? _ _ C1.out.e0)))
  have G1:=hid (D1.out.any A1.out)
  have N2:=hid (C2.out.keep (A1.out.block g (World.block_lt_of_cell? _ _ C2.out.e0)))
  have G2:=hid (D2.out.any A1.out)
  have GLT:g<w.heap.size:=World.block_lt_of_cell? _ _ (hc 0 x rfl).e0
  clear hc hk hd C0 D0 C1 D1 C2 D2
  have HP:=hid (show ∀ h,S0 h→h≠w.heap.size+1 from fun h s e=>by have:=hS h s;omega)
  have GP:=hid (show g<w.heap.size from GLT)
  clear GLT hS
  go_enter Tryd.func22,Tryd.ntmps22
  go_upto_region 1 with fail
  generalize World.alloc (World.alloc w _) _=w1 at *
  have P3:=hid (show w.heap.size≤w.heap.size+1 by omega)
  have PX:=hid (show w.heap.size≠w.heap.size+1 by omega)
  generalize w.heap.size+1=p2 at *
  have KV:=hid (isTrue_any x (.slice a0 m0 c0) w1)
  rw [qq] at KV
  obtain ⟨c0,c1,c2,c3,c4,c5,_⟩:=X1.out
  obtain ⟨k0,k1,k2,k3,k4,k5⟩:=N0.out
  go_upto_region 2 with (go_at_call 30;with_reducible refine Calls.mono KV.out ?_;rintro e9 v1 ⟨rfl,b7⟩;have BB:=hid b7;clear b7)
  clear c0 c1 c2 c3 c4 c5 k0 k1 k2 k3 k4 k5
  have B3:=hid (nextB A1.out BB.out)
  have Y1:=hid (X1.out.next BB.out)
  have Y2:=hid (X2.out.next BB.out)
  have H0:=hid (G0.out.any BB.out)
  have K0:=hid (N0.out.keep (BB.out.block g (World.block_lt_of_cell? _ _ N0.out.e0)))
  have H1:=hid (G1.out.any BB.out)
  have K1:=hid (N1.out.keep (BB.out.block g (World.block_lt_of_cell? _ _ N1.out.e0)))
  have H2:=hid (G2.out.any BB.out)
  have K2:=hid (N2.out.keep (BB.out.block g (World.block_lt_of_cell? _ _ N2.out.e0)))
  clear X1 X2 A1 N0 G0 N1 G1 N2 G2
  have S:=hid (Y2.out.sets (.string y.op) (.string y.name) (.int .i64 (y.kind:Nat)) (.int .i64 y.n) (.int .i64 (y.pl:Nat)) (.slice a1 m1 c1))
  have BF:=hid (Below.put6X B3.out (q:=p2) P3.out (.string y.op) (.string y.name) (.int .i64 (y.kind:Nat)) (.int .i64 y.n) (.int .i64 (y.pl:Nat)) (.slice a1 m1 c1))
  have HD3:=hid (H1.out.keep (S':=S0) fun g s l=>⟨s,heap6 _ p2 (.string y.op) (.string y.name) (.int .i64 (y.kind:Nat)) (.int .i64 y.n) (.int .i64 (y.pl:Nat)) (.slice a1 m1 c1) g (fun e=>HP.out g s e)⟩)
  obtain ⟨z0,z1,z2,z3,z4,z5,zf⟩:=Y2.out
  obtain ⟨c0,c1,c2,c3,c4,c5,_⟩:=Y1.out
  obtain ⟨k0,k1,k2,k3,k4,k5⟩:=K1.out
  go_wp2_with fail
  clear z0 z1 z2 z3 z4 z5 zf c0 c1 c2 c3 c4 c5 k0 k1 k2 k3 k4 k5
  generalize World.setCell _ ⟨p2,5,none⟩ _=wf at *
  obtain ⟨f0,f1,f2,f3,f4,f5,_⟩:=S.out
  try simp only [Exit.inBlock,Exit.then]
  exact bodyPost_ret (v:=.agg #[.string y.op,.string y.name,.int .i64 (y.kind:Nat),.int .i64 y.n,.int .i64 (y.pl:Nat),.slice a1 m1 c1]) (by simp [results,Tryd.results22,go_sem,f0,f1,f2,f3,f4,f5]) rfl ⟨_,rfl,⟨_,rfl,HD3.out⟩,BF.out⟩
 ·rw [show (if x.n=1 then y else z)=z from by simp [q]]
  have qq:=beqM _ _ q
  clear q
  obtain ⟨g,c,sl,rfl,hc,hk⟩:=hd.at2 (by simp)
  have C0:=hid (show NC w g 0 x (sl 0) from hc 0 x rfl)
  have D0:=hid (hk 0 x rfl)
  obtain ⟨a0,m0,c0,e0⟩:=D0.out.slice
  rw [e0] at C0 D0
  clear e0
  have C1:=hid (show NC w g 6 y (sl 1) from hc 1 y rfl)
  have D1:=hid (hk 1 y rfl)
  obtain ⟨a1,m1,c1,e1⟩:=D1.out.slice
  rw [e1] at C1 D1
  clear e1
  have C2:=hid (show NC w g 12 z (sl 2) from hc 2 z rfl)
  have D2:=hid (hk 2 z rfl)
  obtain ⟨a2,m2,c2,e2⟩:=D2.out.slice
  rw [e2] at C2 D2
  clear e2
  have sz1:(w.alloc (.cells #[.string op,.string nm,.int .i64 (kd:Nat),.int .i64 n,.int .i64 (pl:Nat),.slice (some ⟨g,0,none⟩) 3 c] 28)).heap.size=w.heap.size+1:=by simp
  have A1:=hid (show Below w.heap.size w ((w.alloc (.cells #[.string op,.string nm,.int .i64 (kd:Nat),.int .i64 n,.int .i64 (pl:Nat),.slice (some ⟨g,0,none⟩) 3 c] 28)).alloc (.cells #[.string ⟨#[]⟩,.string ⟨#[]⟩,.int .i64 0,.int .i64 0,.int .i64 0,.slice none 0 0] 28)) from ((Below.refl _ _).alloc (Nat.le_refl _) _).alloc (by simp) _)
  have X1:=hid (show B6 ((w.alloc (.cells #[.string op,.string nm,.int .i64 (kd:Nat),.int .i64 n,.int .i64 (pl:Nat),.slice (some ⟨g,0,none⟩) 3 c] 28)).alloc (.cells #[.string ⟨#[]⟩,.string ⟨#[]⟩,.int .i64 0,.int .i64 0,.int .i64 0,.slice none 0 0] 28)) w.heap.size (.string op) (.string nm) (.int .i64 (kd:Nat)) (.int .i64 n) (.int .i64 (pl:Nat)) (.slice (some ⟨g,0,none⟩) 3 c) from by
   have h:=(B6.new w 28 (.string op) (.string nm) (.int .i64 (kd:Nat)) (.int .i64 n) (.int .i64 (pl:Nat)) (.slice (some ⟨g,0,none⟩) 3 c)).next ((Below.refl _ _).alloc (Nat.le_refl _) (.cells #[.string ⟨#[]⟩,.string ⟨#[]⟩,.int .i64 0,.int .i64 0,.int .i64 0,.slice none 0 0] 28))
   exact h)
  have X2:=hid (show B6 ((w.alloc (.cells #[.string op,.string nm,.int .i64 (kd:Nat),.int .i64 n,.int .i64 (pl:Nat),.slice (some ⟨g,0,none⟩) 3 c] 28)).alloc (.cells #[.string ⟨#[]⟩,.string ⟨#[]⟩,.int .i64 0,.int .i64 0,.int .i64 0,.slice none 0 0] 28)) (w.heap.size+1) (.string ⟨#[]⟩) (.string ⟨#[]⟩) (.int .i64 0) (.int .i64 0) (.int .i64 0) (.slice none 0 0) from by
   have h:=B6.new (w.alloc (.cells #[.string op,.string nm,.int .i64 (kd:Nat),.int .i64 n,.int .i64 (pl:Nat),.slice (some ⟨g,0,none⟩) 3 c] 28)) 28 (.string ⟨#[]⟩) (.string ⟨#[]⟩) (.int .i64 0) (.int .i64 0) (.int .i64 0) (.slice none 0 0)
   rw [sz1] at h
   exact h)
  clear sz1
  have N0:=hid (C0.out.keep (A1.out.block g (World.block_lt_of_cell? _ _ C0.out.e0)))
  have G0:=hid (D0.out.any A1.out)
  have N1:=hid (C1.out.keep (A1.out.block g (World.block_lt_of_cell? _ _ C1.out.e0)))
  have G1:=hid (D1.out.any A1.out)
  have N2:=hid (C2.out.keep (A1.out.block g (World.block_lt_of_cell? _ _ C2.out.e0)))
  have G2:=hid (D2.out.any A1.out)
  have GLT:g<w.heap.size:=World.block_lt_of_cell? _ _ (hc 0 x rfl).e0
  clear hc hk hd C0 D0 C1 D1 C2 D2
  have HP:=hid (show ∀ h,S0 h→h≠w.heap.size+1 from fun h s e=>by have:=hS h s;omega)
  have GP:=hid (show g<w.heap.size from GLT)
  clear GLT hS
  go_enter Tryd.func22,Tryd.ntmps22
  go_upto_region 1 with fail
  generalize World.alloc (World.alloc w _) _=w1 at *
  have P3:=hid (show w.heap.size≤w.heap.size+1 by omega)
  have PX:=hid (show w.heap.size≠w.heap.size+1 by omega)
  generalize w.heap.size+1=p2 at *
  have KV:=hid (isTrue_any x (.slice a0 m0 c0) w1)
  rw [qq] at KV
  obtain ⟨c0,c1,c2,c3,c4,c5,_⟩:=X1.out
  obtain ⟨k0,k1,k2,k3,k4,k5⟩:=N0.out
  go_upto_region 3 with (go_at_call 30;with_reducible refine Calls.mono KV.out ?_;rintro e9 v1 ⟨rfl,b7⟩;have BB:=hid b7;clear b7)
  clear c0 c1 c2 c3 c4 c5 k0 k1 k2 k3 k4 k5
  have B3:=hid (nextB A1.out BB.out)
  have Y1:=hid (X1.out.next BB.out)
  have Y2:=hid (X2.out.next BB.out)
  have H0:=hid (G0.out.any BB.out)
  have K0:=hid (N0.out.keep (BB.out.block g (World.block_lt_of_cell? _ _ N0.out.e0)))
  have H1:=hid (G1.out.any BB.out)
  have K1:=hid (N1.out.keep (BB.out.block g (World.block_lt_of_cell? _ _ N1.out.e0)))
  have H2:=hid (G2.out.any BB.out)
  have K2:=hid (N2.out.keep (BB.out.block g (World.block_lt_of_cell? _ _ N2.out.e0)))
  clear X1 X2 A1 N0 G0 N1 G1 N2 G2
  have S:=hid (Y2.out.sets (.string z.op) (.string z.name) (.int .i64 (z.kind:Nat)) (.int .i64 z.n) (.int .i64 (z.pl:Nat)) (.slice a2 m2 c2))
  have BF:=hid (Below.put6X B3.out (q:=p2) P3.out (.string z.op) (.string z.name) (.int .i64 (z.kind:Nat)) (.int .i64 z.n) (.int .i64 (z.pl:Nat)) (.slice a2 m2 c2))
  have HD3:=hid (H2.out.keep (S':=S0) fun g s l=>⟨s,heap6 _ p2 (.string z.op) (.string z.name) (.int .i64 (z.kind:Nat)) (.int .i64 z.n) (.int .i64 (z.pl:Nat)) (.slice a2 m2 c2) g (fun e=>HP.out g s e)⟩)
  obtain ⟨z0,z1,z2,z3,z4,z5,zf⟩:=Y2.out
  obtain ⟨c0,c1,c2,c3,c4,c5,_⟩:=Y1.out
  obtain ⟨k0,k1,k2,k3,k4,k5⟩:=K2.out
  go_wp2_with fail
  clear z0 z1 z2 z3 z4 z5 zf c0 c1 c2 c3 c4 c5 k0 k1 k2 k3 k4 k5
  generalize World.setCell _ ⟨p2,5,none⟩ _=wf at *
  obtain ⟨f0,f1,f2,f3,f4,f5,_⟩:=S.out
  try simp only [Exit.inBlock,Exit.then]
  exact bodyPost_ret (v:=.agg #[.string z.op,.string z.name,.int .i64 (z.kind:Nat),.int .i64 z.n,.int .i64 (z.pl:Nat),.slice a2 m2 c2]) (by simp [results,Tryd.results22,go_sem,f0,f1,f2,f3,f4,f5]) rfl ⟨_,rfl,⟨_,rfl,HD3.out⟩,BF.out⟩
end Go.Proofs.YtbeahnehjannpaaDoor
