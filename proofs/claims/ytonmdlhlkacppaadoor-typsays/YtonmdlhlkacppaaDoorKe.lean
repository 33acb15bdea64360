/- Parts of the proof. -/
import Derived.Test.YtonmdlhlkacppaaDoorKd
import Derived.BigQuiet
import Derived.Deep.RegionHeld3
namespace Go.Proofs.YtonmdlhlkacppaaDoor
open Go.RowKit
set_option linter.unusedVariables false
set_option linter.unusedSimpArgs false
set_option maxRecDepth 100000 in
set_option maxHeartbeats 8000000 in
theorem sum11 (p:Nat) (t:Tr) (sl:Value) (ls:List ByteArray) (hls:ls.length≤99) (nm:ByteArray) (kd:Nat) (n:Int) (pl:Nat) (x y:Tr) (hx:OfC p t sl ls x) (hy:OfC p t sl (ls ++ [nm]) y) (hn:t.kids.length≤10000)
  (S S2:Nat→Prop) (w:World) (la:Option Addr) (lc:Nat) (ka:Option Addr) (kc:Nat) (v:Value) (hS:∀ g,S g→g≠p) (hS2:∀ g,S2 g→g≠p) (h:Cq w p S t sl ls la lc ka kc none) (hd:Nd w S2 v [x,y]) :
  Calls Tryd.prog 47 #[.pointer (some ⟨p,0,none⟩),.agg #[.string ⟨#[115,117,109]⟩,.string nm,.int .i64 (kd:Nat),.int .i64 n,.int .i64 (pl:Nat),v]] w fun e w'=>OfP p S t sl ls la ka (.nd ⟨#[115,117,109]⟩ nm kd n pl [x,y]) w e w':=by
 unfold OfP
 obtain ⟨g,c,sx,sy,rfl,sg,nx,ny,kx0,ky0⟩:=hd.two2
 obtain ⟨sa1,sm1,sc1,rfl⟩:=kx0.slice
 obtain ⟨sa2,sm2,sc2,rfl⟩:=ky0.slice
 have B1:=hid (show Below w.heap.size w (w.alloc (.cells #[.string ⟨#[115,117,109]⟩,.string nm,.int .i64 (kd:Nat),.int .i64 n,.int .i64 (pl:Nat),.slice (some ⟨g,0,none⟩) 2 c] 29)) from (Below.refl _ _).alloc (Nat.le_refl _) _)
 have X1:=hid (B6.new w 29 (.string ⟨#[115,117,109]⟩) (.string nm) (.int .i64 (kd:Nat)) (.int .i64 n) (.int .i64 (pl:Nat)) (.slice (some ⟨g,0,none⟩) 2 c))
 have PQ:=hid h.ck.pl
 have HS:=hid hS
 have HT:=hid hS2
 have LS:=hid hls
 have HN:=hid hn
 have HY:=hid hy
 have gl:g<w.heap.size:=World.block_lt_of_cell? _ _ nx.e0
 have NX:=hid (show NC w g 0 x (.slice sa1 sm1 sc1) from nx)
 have NY:=hid (show NC w g 6 y (.slice sa2 sm2 sc2) from ny)
 have GL:=hid gl
 have KY0:=hid ky0
 have GP:=hid (show g≠p from hS2 g sg)
 obtain ⟨R,hR⟩:∃ R,chk t.kids [] ls.reverse (.nd ⟨#[115,117,109]⟩ nm kd n pl [x,y])=R:=⟨_,rfl⟩
 have RH:=hid (hR.symm.trans (chk_sum t.kids ls.reverse nm kd n pl x y)).symm
 rw [hR]
 have C0:=hid (h.keep (S':=(fun g=>S g∧g<w.heap.size)) B1.out.size (B1.out.block _ h.ck.pl) (fun x e=>B1.out.block _ (h.nl x e).2) (fun x e=>B1.out.block _ (h.nk x e).2) (fun g s l=>⟨⟨s,l⟩,B1.out.block g l⟩))
 have KX:=hid (hx _ (fun g=>S2 g∧g<w.heap.size) _ la lc ka kc _ (fun g s=>hS g s.1) (fun g s=>hS2 g s.1) C0.out (kx0.keep fun g s l=>⟨⟨s,l⟩,B1.out.block g l⟩))
 unfold OfP at KX
 obtain ⟨lt,hlt⟩:∃ l,ls ++ [nm]=l:=⟨_,rfl⟩
 have HLT:=hid hlt
 have LTL:=hid (show lt.length=ls.length+1 from by rw [← hlt];simp)
 have LTR:=hid (show lt.reverse=nm :: ls.reverse from by rw [← hlt];simp)
 rw [hlt] at HY
 rw [← LTR.out] at RH
 clear h hd hS hS2 hx hy hls hn hR hlt nx ny kx0 ky0 gl
 generalize chk t.kids [] ls.reverse x=kx at *
 go_enter Tryd.func47,Tryd.ntmps47
 go_upto_region 1 with fail
 have n0:=(NX.out.keep (B1.out.block g GL.out)).e0
 have n1:=(NX.out.keep (B1.out.block g GL.out)).e1
 have n2:=(NX.out.keep (B1.out.block g GL.out)).e2
 have n3:=(NX.out.keep (B1.out.block g GL.out)).e3
 have n4:=(NX.out.keep (B1.out.block g GL.out)).e4
 have n5:=(NX.out.keep (B1.out.block g GL.out)).e5
 have NY1:=hid (NY.out.keep (B1.out.block g GL.out))
 have G1:=hid ((Gr.refl w p).below B1.out)
 have Q1:=hid B1.out.size
 have KY1:=hid (KY0.out.keep (S':=fun g=>S2 g∧g<w.heap.size) fun g s l=>⟨⟨s,l⟩,B1.out.block g l⟩)
 clear NX NY KY0
 generalize World.alloc w _=w1 at *
 have e5:=X1.out.c5
 go_upto_region 2 with (go_at_call 30;(with_reducible refine Calls.mono KX.out ?_);rintro e w2 ⟨rfl,h2,g2⟩;obtain ⟨la2,lc2,ka2,kc2,c2,f3,f4⟩:=h2;have C2:=hid c2;have F3:=hid ((Fr.refl w la).trans f3 Q1.out);have F4:=hid ((Fr.refl w ka).trans f4 Q1.out);have G2:=hid (G1.out.trans g2);have BX2:=hid (X1.out.gr g2 (by have:=PQ.out;omega));have NY2:=hid (NY1.out.keep (g2.bl (World.block_lt_of_cell? _ _ NY1.out.e0) GP.out));have KY2:=hid (KY1.out.keep (S':=fun g=>S2 g∧g<w.heap.size) fun g s l=>⟨s,g2.bl l (HT.out g s.1)⟩);clear c2 f3 f4 g2)
 clear n0 n1 n2 n3 n4 n5 e5 NY1 KY1 X1 C0 KX G1 B1
 by_cases qx:kx.1=0
 ·rw [show fO kx=some kx.2 from if_pos qx] at C2
  have FF:=hid (show (0,kx.2)=R from by rw [← RH.out,if_pos qx])
  have zk:(0:Int)≤(kx.2:Int):=by omega
  have c8:w2.cell? ⟨p,8,none⟩=some (.int .i64 (kx.2:Nat)):=C2.out.ck.c8
  clear qx
  go_wp2_with fail
  go_returns
  exact ⟨by rw [← FF.out];rfl,by rw [← FF.out];exact ofE (C2.out.sub (fun g s _=>s.1)) F3.out F4.out,G2.out⟩
 ·rw [show fO kx=none from if_neg qx] at C2
  rw [if_neg qx] at RH
  have c8:w2.cell? ⟨p,8,none⟩=some (.int .i64 (-1)):=C2.out.ck.c8
  have PW:=hid C2.out.ck.pl
  clear qx
  go_upto_region 4 with fail
  clear c8
  go_cut [5] from 20 to 32 (fun s5 wx=>s5=.int .i64 kx.1∧Hid (∃ (la3:Option Addr) (lc3:Nat),Cr wx p (fun g=>S g∧g<w.heap.size) t sl lt ls.length la3 lc3 ka2 kc2 none∧Gr w2 wx p∧∀ x,la3=some x→w2.heap.size≤x.block))
  case first =>
   refine wp_region_held_drew (S:=fun W=>W.cell? ⟨w.heap.size,1,none⟩=some (.string nm)) (by kernel_rfl) (BX2.out.next (Below.refl _ _).drew).c1 (fun hHeld=>?_)
   refine take2 rfl (i:=0) (v:=.pointer (some ⟨p,0,none⟩)) (d:=20) rfl rfl (by kernel_rfl) (by kernel_rfl) (by kernel_rfl) (fun _ _ _ h=>h) (Or.inl ⟨by rfl,?_⟩) hHeld ?_
   ·(intro W hW;(try dsimp only at hW);go_simp)
   try simp only [Act.put,List.setIfInBounds_toArray,List.set_cons_zero,List.set_cons_succ]
   refine take2 rfl (i:=2) (v:=.pointer (some ⟨p,0,none⟩)) (d:=22) rfl rfl (by kernel_rfl) (by kernel_rfl) (by kernel_rfl) (fun _ _ _ h=>h) (Or.inl ⟨by rfl,?_⟩) hHeld ?_
   ·(intro W hW;(try dsimp only at hW);go_simp)
   try simp only [Act.put,List.setIfInBounds_toArray,List.set_cons_zero,List.set_cons_succ]
   refine take2 rfl (i:=3) (v:=.pointer (some ⟨p,0,none⟩)) (d:=23) rfl rfl (by kernel_rfl) (by kernel_rfl) (by kernel_rfl) (fun _ _ _ h=>h) (Or.inl ⟨by rfl,?_⟩) hHeld ?_
   ·(intro W hW;(try dsimp only at hW);go_simp)
   try simp only [Act.put,List.setIfInBounds_toArray,List.set_cons_zero,List.set_cons_succ]
   refine take2 rfl (i:=4) (v:=.pointer (some ⟨p,6,none⟩)) (d:=24) rfl rfl (by kernel_rfl) (by kernel_rfl) (by kernel_rfl) (fun _ _ _ h=>h) (Or.inl ⟨by rfl,?_⟩) hHeld ?_
   ·(intro W hW;(try dsimp only at hW);go_simp)
   try simp only [Act.put,List.setIfInBounds_toArray,List.set_cons_zero,List.set_cons_succ]
   refine take2 rfl (i:=7) (v:=.pointer (some ⟨w.heap.size,1,none⟩)) (d:=27) rfl rfl (by kernel_rfl) (by kernel_rfl) (by kernel_rfl) (fun _ _ _ h=>h) (Or.inl ⟨by rfl,?_⟩) hHeld ?_
   ·(intro W hW;(try dsimp only at hW);go_simp)
   try simp only [Act.put,List.setIfInBounds_toArray,List.set_cons_zero,List.set_cons_succ]
   refine take2 rfl (i:=8) (v:=.string nm) (d:=28) rfl rfl (by kernel_rfl) (by kernel_rfl) (by kernel_rfl) (fun _ _ _ h=>h) (Or.inl ⟨by rfl,?_⟩) hHeld ?_
   ·(intro W hW;(try dsimp only at hW);have c1:=hW;go_simp)
   try simp only [Act.put,List.setIfInBounds_toArray,List.set_cons_zero,List.set_cons_succ]
   have BB:=hid (show Below w2.heap.size w2 w2.drew from (Below.refl _ _).drew)
   generalize w2.drew=v0 at *
   refine wpAnyH_ready (rs:=[1,5,9]) (by kernel_rfl) (by simp) ?_
   refine cons222 rfl rfl rfl rfl (fun K9 hK=>?_) (fun K9 hK=>?_) (fun K9 hK=>?_)
   ·have bA:=(show Below v0.heap.size v0 (v0.alloc (.cells #[] 9)) from (Below.refl _ _).alloc (Nat.le_refl _) _)
    have BN:=hid (nextB BB.out bA)
    have EN:=hid ((ow_empty v0 9).mono (b':=w2.heap.size) BB.out.size)
    clear bA
    go_simp
    refine hK.out _ _ (BX2.out.next BN.out).c1 (fun hX=>?_)
    clear hK K9 hHeld
    have hHeld:=hX
    clear hX
    try simp only [Act.put,List.setIfInBounds_toArray,List.set_cons_zero,List.set_cons_succ]
    clear BB
    have BB:=BN
    clear BN
    have E1:=EN
    clear EN
    generalize World.alloc v0 _=v1 at *
    generalize v0.heap.size=e1 at *
    refine wpAnyH_ready (rs:=[5,9]) (by kernel_rfl) (by simp) ?_
    refine cons22 rfl rfl rfl (fun K9 hK=>?_) (fun K9 hK=>?_)
    ·have c6:=(C2.out.ck.next BB.out).c6
     go_simp
     (try go_wp2_with fail)
     refine hK.out _ _ (BX2.out.next BB.out).c1 (fun hX=>?_)
     clear hK K9 hHeld
     have hHeld:=hX
     clear hX
     try simp only [Act.put,List.setIfInBounds_toArray,List.set_cons_zero,List.set_cons_succ]
     clear c6
     refine wpAnyH_ready (rs:=[6,9]) (by kernel_rfl) (by simp) ?_
     refine cons22 rfl rfl rfl (fun K9 hK=>?_) (fun K9 hK=>?_)
     ·refine step_append_sa 45 9 (.string ByteArray.empty) 16 Tryd.underlying45 strInfo rfl (by decide) (by rfl) (.tmp 21) (.tmp 25) (by rfl) w2.heap.size _ [] (by rfl) E1.out la2 ls.length lc2 (sv ls) (by rfl) (C2.out.rl.below BB.out) (by have:=LS.out;simp;omega) BB.out.size ?_
      intro v1 v3 o1 g1 l1
      rw [List.nil_append] at o1
      have BN:=hid (BB.out.grown g1 BB.out.size (fun k hk=>(E1.out.lt k hk).1))
      have A6:=hid o1
      clear o1 g1 l1 E1
      refine hK.out _ _ (BX2.out.next BN.out).c1 (fun hX=>?_)
      clear hK K9 hHeld
      have hHeld:=hX
      clear hX
      try simp only [Act.put,List.setIfInBounds_toArray,List.set_cons_zero,List.set_cons_succ]
      clear BB
      have BB:=BN
      clear BN
      refine wpAnyH_ready (rs:=[9]) (by kernel_rfl) (by simp) ?_
      refine cons2 rfl rfl (fun K9 hK=>?_)
      have bA:=(show Below v3.heap.size v3 (v3.alloc (.cells #[.string nm] 9)) from (Below.refl _ _).alloc (Nat.le_refl _) _)
      have BN:=hid (nextB BB.out bA)
      have NN:=hid (show Sl (v3.alloc (.cells #[.string nm] 9)) (some ⟨v3.heap.size,0,none⟩) 1 1 [.string nm]∧v3.heap.size<(v3.alloc (.cells #[.string nm] 9)).heap.size from ⟨sl_new v3 (.string nm) 9 rfl,by simp⟩)
      have AN:=hid (A6.out.below bA)
      have NE:=hid (show v1.ownBlock≠some v3.heap.size from fun e=>by have:=(A6.out.lt _ e).2;omega)
      clear bA
      go_simp
      refine hK.out _ _ (BX2.out.next BN.out).c1 (fun hX=>?_)
      clear hK K9 hHeld
      have hHeld:=hX
      clear hX
      try simp only [Act.put,List.setIfInBounds_toArray,List.set_cons_zero,List.set_cons_succ]
      clear BB
      have BB:=BN
      clear BN
      have N9:=NN
      clear NN
      clear A6
      have A6:=AN
      clear AN
      generalize World.alloc v3 _=v4 at *
      generalize v3.heap.size=b9 at *
      refine wpAnyH_ready (rs:=[10]) (by kernel_rfl) (by simp) ?_
      refine cons2 rfl rfl (fun K9 hK=>?_)
      refine step_append_sa 45 9 (.string ByteArray.empty) 16 Tryd.underlying45 strInfo rfl (by decide) (by rfl) (.tmp 26) (.tmp 29) (by rfl) w2.heap.size _ (sv ls) (by rfl) A6.out (some ⟨b9,0,none⟩) 1 1 [.string nm] (by rfl) N9.out.1 (by have:=LS.out;rw [sv_len];omega) BB.out.size ?_
      intro v2 v5 o2 g2 l2
      have BN:=hid (BB.out.grown g2 BB.out.size (fun k hk=>(A6.out.lt k hk).1))
      obtain ⟨la3,lc3,rfl,s3,h3⟩:=row_of (n:=lt.length) (show Ow v5 9 w2.heap.size v2 (sv lt) from by rw [← HLT.out,sv_app];exact o2) (sv_len lt)
      have S3:=hid s3
      have H3:=hid h3
      clear o2 g2 l2 A6 N9 NE s3 h3
      refine hK.out _ _ (BX2.out.next BN.out).c1 (fun hX=>?_)
      clear hK K9 hHeld
      have hHeld:=hX
      clear hX
      try simp only [Act.put,List.setIfInBounds_toArray,List.set_cons_zero,List.set_cons_succ]
      clear BB
      have BB:=BN
      clear BN
      refine take2 rfl (i:=11) (v:=.pointer (some ⟨p,0,none⟩)) (d:=31) rfl rfl (by kernel_rfl) (by kernel_rfl) (by kernel_rfl) (fun _ _ _ h=>h) (Or.inl ⟨by rfl,?_⟩) hHeld ?_
      ·(intro W hW;(try dsimp only at hW);go_simp)
      try simp only [Act.put,List.setIfInBounds_toArray,List.set_cons_zero,List.set_cons_succ]
      refine take2 rfl (i:=12) (v:=.pointer (some ⟨p,6,none⟩)) (d:=32) rfl rfl (by kernel_rfl) (by kernel_rfl) (by kernel_rfl) (fun _ _ _ h=>h) (Or.inl ⟨by rfl,?_⟩) hHeld ?_
      ·(intro W hW;(try dsimp only at hW);go_simp)
      try simp only [Act.put,List.setIfInBounds_toArray,List.set_cons_zero,List.set_cons_succ]
      have c6:=(C2.out.ck.next BB.out).c6
      have z6:=(C2.out.ck.next BB.out).fz 6
      have CN:=hid ((C2.out.next BB.out).cr.setl (fun g s=>HS.out g s.1) S3.out (fun x e=>⟨by have:=(H3.out x e).1;have:=PW.out;omega,(H3.out x e).2⟩))
      have GN:=hid (((Gr.refl w2 p).below BB.out).set (i:=6) (.slice la3 lt.length lc3))
      refine wpAnyH_ready (rs:=[13]) (by kernel_rfl) (by simp) ?_
      refine cons2 rfl rfl (fun K9 hK=>?_)
      go_simp
      refine hK.out _ _ ((BX2.out.next BB.out).put (q:=p) (i:=6) (by have:=PQ.out;omega) (.slice la3 lt.length lc3)).c1 (fun hX=>?_)
      clear hK K9 hHeld hX c6 z6
      try simp only [Act.put,List.setIfInBounds_toArray,List.set_cons_zero,List.set_cons_succ]
      refine wpAnyH_done (by kernel_rfl) ?_ _
      go_wp2
      go_meet
      exact ⟨rfl,la3,lc3,CN.out,GN.out,fun x e=>(H3.out x e).1⟩
     ·have bA:=(show Below v1.heap.size v1 (v1.alloc (.cells #[.string nm] 9)) from (Below.refl _ _).alloc (Nat.le_refl _) _)
      have BN:=hid (nextB BB.out bA)
      have NN:=hid (show Sl (v1.alloc (.cells #[.string nm] 9)) (some ⟨v1.heap.size,0,none⟩) 1 1 [.string nm]∧v1.heap.size<(v1.alloc (.cells #[.string nm] 9)).heap.size from ⟨sl_new v1 (.string nm) 9 rfl,by simp⟩)
      have EN:=hid (E1.out.below bA)
      have NE:=hid (show e1≠v1.heap.size from by have:=(E1.out.lt e1 rfl).2;omega)
      clear bA
      go_simp
      refine hK.out _ _ (BX2.out.next BN.out).c1 (fun hX=>?_)
      clear hK K9 hHeld
      have hHeld:=hX
      clear hX
      try simp only [Act.put,List.setIfInBounds_toArray,List.set_cons_zero,List.set_cons_succ]
      clear BB
      have BB:=BN
      clear BN
      have N9:=NN
      clear NN
      clear E1
      have E1:=EN
      clear EN
      generalize World.alloc v1 _=v6 at *
      generalize v1.heap.size=b9 at *
      refine wpAnyH_ready (rs:=[6]) (by kernel_rfl) (by simp) ?_
      refine cons2 rfl rfl (fun K9 hK=>?_)
      refine step_append_sa 45 9 (.string ByteArray.empty) 16 Tryd.underlying45 strInfo rfl (by decide) (by rfl) (.tmp 21) (.tmp 25) (by rfl) w2.heap.size _ [] (by rfl) E1.out la2 ls.length lc2 (sv ls) (by rfl) (C2.out.rl.below BB.out) (by have:=LS.out;simp;omega) BB.out.size ?_
      intro v1 v7 o1 g1 l1
      rw [List.nil_append] at o1
      have BN:=hid (BB.out.grown g1 BB.out.size (fun k hk=>(E1.out.lt k hk).1))
      have A6:=hid o1
      have NN:=hid (And.intro (N9.out.1.grown g1 (fun _ x hx e=>by injection hx with hx;subst hx;exact NE.out (by injection e with e;exact e.symm))) (Nat.lt_of_lt_of_le N9.out.2 g1.size))
      have NX:=hid (Lies.ne l1 N9.out.2 (fun e=>NE.out (by injection e)))
      clear N9 NE
      have N9:=NN
      have NE:=NX
      clear NN NX
      clear o1 g1 l1 E1
      refine hK.out _ _ (BX2.out.next BN.out).c1 (fun hX=>?_)
      clear hK K9 hHeld
      have hHeld:=hX
      clear hX
      try simp only [Act.put,List.setIfInBounds_toArray,List.set_cons_zero,List.set_cons_succ]
      clear BB
      have BB:=BN
      clear BN
      refine wpAnyH_ready (rs:=[10]) (by kernel_rfl) (by simp) ?_
      refine cons2 rfl rfl (fun K9 hK=>?_)
      refine step_append_sa 45 9 (.string ByteArray.empty) 16 Tryd.underlying45 strInfo rfl (by decide) (by rfl) (.tmp 26) (.tmp 29) (by rfl) w2.heap.size _ (sv ls) (by rfl) A6.out (some ⟨b9,0,none⟩) 1 1 [.string nm] (by rfl) N9.out.1 (by have:=LS.out;rw [sv_len];omega) BB.out.size ?_
      intro v2 v8 o2 g2 l2
      have BN:=hid (BB.out.grown g2 BB.out.size (fun k hk=>(A6.out.lt k hk).1))
      obtain ⟨la3,lc3,rfl,s3,h3⟩:=row_of (n:=lt.length) (show Ow v8 9 w2.heap.size v2 (sv lt) from by rw [← HLT.out,sv_app];exact o2) (sv_len lt)
      have S3:=hid s3
      have H3:=hid h3
      clear o2 g2 l2 A6 N9 NE s3 h3
      refine hK.out _ _ (BX2.out.next BN.out).c1 (fun hX=>?_)
      clear hK K9 hHeld
      have hHeld:=hX
      clear hX
      try simp only [Act.put,List.setIfInBounds_toArray,List.set_cons_zero,List.set_cons_succ]
      clear BB
      have BB:=BN
      clear BN
      refine take2 rfl (i:=11) (v:=.pointer (some ⟨p,0,none⟩)) (d:=31) rfl rfl (by kernel_rfl) (by kernel_rfl) (by kernel_rfl) (fun _ _ _ h=>h) (Or.inl ⟨by rfl,?_⟩) hHeld ?_
      ·(intro W hW;(try dsimp only at hW);go_simp)
      try simp only [Act.put,List.setIfInBounds_toArray,List.set_cons_zero,List.set_cons_succ]
      refine take2 rfl (i:=12) (v:=.pointer (some ⟨p,6,none⟩)) (d:=32) rfl rfl (by kernel_rfl) (by kernel_rfl) (by kernel_rfl) (fun _ _ _ h=>h) (Or.inl ⟨by rfl,?_⟩) hHeld ?_
      ·(intro W hW;(try dsimp only at hW);go_simp)
      try simp only [Act.put,List.setIfInBounds_toArray,List.set_cons_zero,List.set_cons_succ]
      have c6:=(C2.out.ck.next BB.out).c6
      have z6:=(C2.out.ck.next BB.out).fz 6
      have CN:=hid ((C2.out.next BB.out).cr.setl (fun g s=>HS.out g s.1) S3.out (fun x e=>⟨by have:=(H3.out x e).1;have:=PW.out;omega,(H3.out x e).2⟩))
      have GN:=hid (((Gr.refl w2 p).below BB.out).set (i:=6) (.slice la3 lt.length lc3))
      refine wpAnyH_ready (rs:=[13]) (by kernel_rfl) (by simp) ?_
      refine cons2 rfl rfl (fun K9 hK=>?_)
      go_simp
      refine hK.out _ _ ((BX2.out.next BB.out).put (q:=p) (i:=6) (by have:=PQ.out;omega) (.slice la3 lt.length lc3)).c1 (fun hX=>?_)
      clear hK K9 hHeld hX c6 z6
      try simp only [Act.put,List.setIfInBounds_toArray,List.set_cons_zero,List.set_cons_succ]
      refine wpAnyH_done (by kernel_rfl) ?_ _
      go_wp2
      go_meet
      exact ⟨rfl,la3,lc3,CN.out,GN.out,fun x e=>(H3.out x e).1⟩
    ·have bA:=(show Below v1.heap.size v1 (v1.alloc (.cells #[.string nm] 9)) from (Below.refl _ _).alloc (Nat.le_refl _) _)
     have BN:=hid (nextB BB.out bA)
     have NN:=hid (show Sl (v1.alloc (.cells #[.string nm] 9)) (some ⟨v1.heap.size,0,none⟩) 1 1 [.string nm]∧v1.heap.size<(v1.alloc (.cells #[.string nm] 9)).heap.size from ⟨sl_new v1 (.string nm) 9 rfl,by simp⟩)
     have EN:=hid (E1.out.below bA)
     have NE:=hid (show e1≠v1.heap.size from by have:=(E1.out.lt e1 rfl).2;omega)
     clear bA
     go_simp
     refine hK.out _ _ (BX2.out.next BN.out).c1 (fun hX=>?_)
     clear hK K9 hHeld
     have hHeld:=hX
     clear hX
     try simp only [Act.put,List.setIfInBounds_toArray,List.set_cons_zero,List.set_cons_succ]
     clear BB
     have BB:=BN
     clear BN
     have N9:=NN
     clear NN
     clear E1
     have E1:=EN
     clear EN
     generalize World.alloc v1 _=v9 at *
     generalize v1.heap.size=b9 at *
     refine wpAnyH_ready (rs:=[5]) (by kernel_rfl) (by simp) ?_
     refine cons2 rfl rfl (fun K9 hK=>?_)
     have c6:=(C2.out.ck.next BB.out).c6
     go_simp
     (try go_wp2_with fail)
     refine hK.out _ _ (BX2.out.next BB.out).c1 (fun hX=>?_)
     clear hK K9 hHeld
     have hHeld:=hX
     clear hX
     try simp only [Act.put,List.setIfInBounds_toArray,List.set_cons_zero,List.set_cons_succ]
     clear c6
     refine wpAnyH_ready (rs:=[6]) (by kernel_rfl) (by simp) ?_
     refine cons2 rfl rfl (fun K9 hK=>?_)
     refine step_append_sa 45 9 (.string ByteArray.empty) 16 Tryd.underlying45 strInfo rfl (by decide) (by rfl) (.tmp 21) (.tmp 25) (by rfl) w2.heap.size _ [] (by rfl) E1.out la2 ls.length lc2 (sv ls) (by rfl) (C2.out.rl.below BB.out) (by have:=LS.out;simp;omega) BB.out.size ?_
     intro v1 v11 o1 g1 l1
     rw [List.nil_append] at o1
     have BN:=hid (BB.out.grown g1 BB.out.size (fun k hk=>(E1.out.lt k hk).1))
     have A6:=hid o1
     have NN:=hid (And.intro (N9.out.1.grown g1 (fun _ x hx e=>by injection hx with hx;subst hx;exact NE.out (by injection e with e;exact e.symm))) (Nat.lt_of_lt_of_le N9.out.2 g1.size))
     have NX:=hid (Lies.ne l1 N9.out.2 (fun e=>NE.out (by injection e)))
     clear N9 NE
     have N9:=NN
     have NE:=NX
     clear NN NX
     clear o1 g1 l1 E1
     refine hK.out _ _ (BX2.out.next BN.out).c1 (fun hX=>?_)
     clear hK K9 hHeld
     have hHeld:=hX
     clear hX
     try simp only [Act.put,List.setIfInBounds_toArray,List.set_cons_zero,List.set_cons_succ]
     clear BB
     have BB:=BN
     clear BN
     refine wpAnyH_ready (rs:=[10]) (by kernel_rfl) (by simp) ?_
     refine cons2 rfl rfl (fun K9 hK=>?_)
     refine step_append_sa 45 9 (.string ByteArray.empty) 16 Tryd.underlying45 strInfo rfl (by decide) (by rfl) (.tmp 26) (.tmp 29) (by rfl) w2.heap.size _ (sv ls) (by rfl) A6.out (some ⟨b9,0,none⟩) 1 1 [.string nm] (by rfl) N9.out.1 (by have:=LS.out;rw [sv_len];omega) BB.out.size ?_
     intro v2 v12 o2 g2 l2
     have BN:=hid (BB.out.grown g2 BB.out.size (fun k hk=>(A6.out.lt k hk).1))
     obtain ⟨la3,lc3,rfl,s3,h3⟩:=row_of (n:=lt.length) (show Ow v12 9 w2.heap.size v2 (sv lt) from by rw [← HLT.out,sv_app];exact o2) (sv_len lt)
     have S3:=hid s3
     have H3:=hid h3
     clear o2 g2 l2 A6 N9 NE s3 h3
     refine hK.out _ _ (BX2.out.next BN.out).c1 (fun hX=>?_)
     clear hK K9 hHeld
     have hHeld:=hX
     clear hX
     try simp only [Act.put,List.setIfInBounds_toArray,List.set_cons_zero,List.set_cons_succ]
     clear BB
     have BB:=BN
     clear BN
     refine take2 rfl (i:=11) (v:=.pointer (some ⟨p,0,none⟩)) (d:=31) rfl rfl (by kernel_rfl) (by kernel_rfl) (by kernel_rfl) (fun _ _ _ h=>h) (Or.inl ⟨by rfl,?_⟩) hHeld ?_
     ·(intro W hW;(try dsimp only at hW);go_simp)
     try simp only [Act.put,List.setIfInBounds_toArray,List.set_cons_zero,List.set_cons_succ]
     refine take2 rfl (i:=12) (v:=.pointer (some ⟨p,6,none⟩)) (d:=32) rfl rfl (by kernel_rfl) (by kernel_rfl) (by kernel_rfl) (fun _ _ _ h=>h) (Or.inl ⟨by rfl,?_⟩) hHeld ?_
     ·(intro W hW;(try dsimp only at hW);go_simp)
     try simp only [Act.put,List.setIfInBounds_toArray,List.set_cons_zero,List.set_cons_succ]
     have c6:=(C2.out.ck.next BB.out).c6
     have z6:=(C2.out.ck.next BB.out).fz 6
     have CN:=hid ((C2.out.next BB.out).cr.setl (fun g s=>HS.out g s.1) S3.out (fun x e=>⟨by have:=(H3.out x e).1;have:=PW.out;omega,(H3.out x e).2⟩))
     have GN:=hid (((Gr.refl w2 p).below BB.out).set (i:=6) (.slice la3 lt.length lc3))
     refine wpAnyH_ready (rs:=[13]) (by kernel_rfl) (by simp) ?_
     refine cons2 rfl rfl (fun K9 hK=>?_)
     go_simp
     refine hK.out _ _ ((BX2.out.next BB.out).put (q:=p) (i:=6) (by have:=PQ.out;omega) (.slice la3 lt.length lc3)).c1 (fun hX=>?_)
     clear hK K9 hHeld hX c6 z6
     try simp only [Act.put,List.setIfInBounds_toArray,List.set_cons_zero,List.set_cons_succ]
     refine wpAnyH_done (by kernel_rfl) ?_ _
     go_wp2
     go_meet
     exact ⟨rfl,la3,lc3,CN.out,GN.out,fun x e=>(H3.out x e).1⟩
   ·have c6:=(C2.out.ck.next BB.out).c6
    go_simp
    (try go_wp2_with fail)
    refine hK.out _ _ (BX2.out.next BB.out).c1 (fun hX=>?_)
    clear hK K9 hHeld
    have hHeld:=hX
    clear hX
    try simp only [Act.put,List.setIfInBounds_toArray,List.set_cons_zero,List.set_cons_succ]
    clear c6
    refine wpAnyH_ready (rs:=[1,9]) (by kernel_rfl) (by simp) ?_
    refine cons22 rfl rfl rfl (fun K9 hK=>?_) (fun K9 hK=>?_)
    ·have bA:=(show Below v0.heap.size v0 (v0.alloc (.cells #[] 9)) from (Below.refl _ _).alloc (Nat.le_refl _) _)
     have BN:=hid (nextB BB.out bA)
     have EN:=hid ((ow_empty v0 9).mono (b':=w2.heap.size) BB.out.size)
     clear bA
     go_simp
     refine hK.out _ _ (BX2.out.next BN.out).c1 (fun hX=>?_)
     clear hK K9 hHeld
     have hHeld:=hX
     clear hX
     try simp only [Act.put,List.setIfInBounds_toArray,List.set_cons_zero,List.set_cons_succ]
     clear BB
     have BB:=BN
     clear BN
     have E1:=EN
     clear EN
     generalize World.alloc v0 _=v14 at *
     generalize v0.heap.size=e1 at *
     refine wpAnyH_ready (rs:=[6,9]) (by kernel_rfl) (by simp) ?_
     refine cons22 rfl rfl rfl (fun K9 hK=>?_) (fun K9 hK=>?_)
     ·refine step_append_sa 45 9 (.string ByteArray.empty) 16 Tryd.underlying45 strInfo rfl (by decide) (by rfl) (.tmp 21) (.tmp 25) (by rfl) w2.heap.size _ [] (by rfl) E1.out la2 ls.length lc2 (sv ls) (by rfl) (C2.out.rl.below BB.out) (by have:=LS.out;simp;omega) BB.out.size ?_
      intro v1 v15 o1 g1 l1
      rw [List.nil_append] at o1
      have BN:=hid (BB.out.grown g1 BB.out.size (fun k hk=>(E1.out.lt k hk).1))
      have A6:=hid o1
      clear o1 g1 l1 E1
      refine hK.out _ _ (BX2.out.next BN.out).c1 (fun hX=>?_)
      clear hK K9 hHeld
      have hHeld:=hX
      clear hX
      try simp only [Act.put,List.setIfInBounds_toArray,List.set_cons_zero,List.set_cons_succ]
      clear BB
      have BB:=BN
      clear BN
      refine wpAnyH_ready (rs:=[9]) (by kernel_rfl) (by simp) ?_
      refine cons2 rfl rfl (fun K9 hK=>?_)
      have bA:=(show Below v15.heap.size v15 (v15.alloc (.cells #[.string nm] 9)) from (Below.refl _ _).alloc (Nat.le_refl _) _)
      have BN:=hid (nextB BB.out bA)
      have NN:=hid (show Sl (v15.alloc (.cells #[.string nm] 9)) (some ⟨v15.heap.size,0,none⟩) 1 1 [.string nm]∧v15.heap.size<(v15.alloc (.cells #[.string nm] 9)).heap.size from ⟨sl_new v15 (.string nm) 9 rfl,by simp⟩)
      have AN:=hid (A6.out.below bA)
      have NE:=hid (show v1.ownBlock≠some v15.heap.size from fun e=>by have:=(A6.out.lt _ e).2;omega)
      clear bA
      go_simp
      refine hK.out _ _ (BX2.out.next BN.out).c1 (fun hX=>?_)
      clear hK K9 hHeld
      have hHeld:=hX
      clear hX
      try simp only [Act.put,List.setIfInBounds_toArray,List.set_cons_zero,List.set_cons_succ]
      clear BB
      have BB:=BN
      clear BN
      have N9:=NN
      clear NN
      clear A6
      have A6:=AN
      clear AN
      generalize World.alloc v15 _=v16 at *
      generalize v15.heap.size=b9 at *
      refine wpAnyH_ready (rs:=[10]) (by kernel_rfl) (by simp) ?_
      refine cons2 rfl rfl (fun K9 hK=>?_)
      refine step_append_sa 45 9 (.string ByteArray.empty) 16 Tryd.underlying45 strInfo rfl (by decide) (by rfl) (.tmp 26) (.tmp 29) (by rfl) w2.heap.size _ (sv ls) (by rfl) A6.out (some ⟨b9,0,none⟩) 1 1 [.string nm] (by rfl) N9.out.1 (by have:=LS.out;rw [sv_len];omega) BB.out.size ?_
      intro v2 v17 o2 g2 l2
      have BN:=hid (BB.out.grown g2 BB.out.size (fun k hk=>(A6.out.lt k hk).1))
      obtain ⟨la3,lc3,rfl,s3,h3⟩:=row_of (n:=lt.length) (show Ow v17 9 w2.heap.size v2 (sv lt) from by rw [← HLT.out,sv_app];exact o2) (sv_len lt)
      have S3:=hid s3
      have H3:=hid h3
      clear o2 g2 l2 A6 N9 NE s3 h3
      refine hK.out _ _ (BX2.out.next BN.out).c1 (fun hX=>?_)
      clear hK K9 hHeld
      have hHeld:=hX
      clear hX
      try simp only [Act.put,List.setIfInBounds_toArray,List.set_cons_zero,List.set_cons_succ]
      clear BB
      have BB:=BN
      clear BN
      refine take2 rfl (i:=11) (v:=.pointer (some ⟨p,0,none⟩)) (d:=31) rfl rfl (by kernel_rfl) (by kernel_rfl) (by kernel_rfl) (fun _ _ _ h=>h) (Or.inl ⟨by rfl,?_⟩) hHeld ?_
      ·(intro W hW;(try dsimp only at hW);go_simp)
      try simp only [Act.put,List.setIfInBounds_toArray,List.set_cons_zero,List.set_cons_succ]
      refine take2 rfl (i:=12) (v:=.pointer (some ⟨p,6,none⟩)) (d:=32) rfl rfl (by kernel_rfl) (by kernel_rfl) (by kernel_rfl) (fun _ _ _ h=>h) (Or.inl ⟨by rfl,?_⟩) hHeld ?_
      ·(intro W hW;(try dsimp only at hW);go_simp)
      try simp only [Act.put,List.setIfInBounds_toArray,List.set_cons_zero,List.set_cons_succ]
      have c6:=(C2.out.ck.next BB.out).c6
      have z6:=(C2.out.ck.next BB.out).fz 6
      have CN:=hid ((C2.out.next BB.out).cr.setl (fun g s=>HS.out g s.1) S3.out (fun x e=>⟨by have:=(H3.out x e).1;have:=PW.out;omega,(H3.out x e).2⟩))
      have GN:=hid (((Gr.refl w2 p).below BB.out).set (i:=6) (.slice la3 lt.length lc3))
      refine wpAnyH_ready (rs:=[13]) (by kernel_rfl) (by simp) ?_
      refine cons2 rfl rfl (fun K9 hK=>?_)
      go_simp
      refine hK.out _ _ ((BX2.out.next BB.out).put (q:=p) (i:=6) (by have:=PQ.out;omega) (.slice la3 lt.length lc3)).c1 (fun hX=>?_)
      clear hK K9 hHeld hX c6 z6
      try simp only [Act.put,List.setIfInBounds_toArray,List.set_cons_zero,List.set_cons_succ]
      refine wpAnyH_done (by kernel_rfl) ?_ _
      go_wp2
      go_meet
      exact ⟨rfl,la3,lc3,CN.out,GN.out,fun x e=>(H3.out x e).1⟩
     ·have bA:=(show Below v14.heap.size v14 (v14.alloc (.cells #[.string nm] 9)) from (Below.refl _ _).alloc (Nat.le_refl _) _)
      have BN:=hid (nextB BB.out bA)
      have NN:=hid (show Sl (v14.alloc (.cells #[.string nm] 9)) (some ⟨v14.heap.size,0,none⟩) 1 1 [.string nm]∧v14.heap.size<(v14.alloc (.cells #[.string nm] 9)).heap.size from ⟨sl_new v14 (.string nm) 9 rfl,by simp⟩)
      have EN:=hid (E1.out.below bA)
      have NE:=hid (show e1≠v14.heap.size from by have:=(E1.out.lt e1 rfl).2;omega)
      clear bA
      go_simp
      refine hK.out _ _ (BX2.out.next BN.out).c1 (fun hX=>?_)
      clear hK K9 hHeld
      have hHeld:=hX
      clear hX
      try simp only [Act.put,List.setIfInBounds_toArray,List.set_cons_zero,List.set_cons_succ]
      clear BB
      have BB:=BN
      clear BN
      have N9:=NN
      clear NN
      clear E1
      have E1:=EN
      clear EN
      generalize World.alloc v14 _=v18 at *
      generalize v14.heap.size=b9 at *
      refine wpAnyH_ready (rs:=[6]) (by kernel_rfl) (by simp) ?_
      refine cons2 rfl rfl (fun K9 hK=>?_)
      refine step_append_sa 45 9 (.string ByteArray.empty) 16 Tryd.underlying45 strInfo rfl (by decide) (by rfl) (.tmp 21) (.tmp 25) (by rfl) w2.heap.size _ [] (by rfl) E1.out la2 ls.length lc2 (sv ls) (by rfl) (C2.out.rl.below BB.out) (by have:=LS.out;simp;omega) BB.out.size ?_
      intro v1 v19 o1 g1 l1
      rw [List.nil_append] at o1
      have BN:=hid (BB.out.grown g1 BB.out.size (fun k hk=>(E1.out.lt k hk).1))
      have A6:=hid o1
      have NN:=hid (And.intro (N9.out.1.grown g1 (fun _ x hx e=>by injection hx with hx;subst hx;exact NE.out (by injection e with e;exact e.symm))) (Nat.lt_of_lt_of_le N9.out.2 g1.size))
      have NX:=hid (Lies.ne l1 N9.out.2 (fun e=>NE.out (by injection e)))
      clear N9 NE
      have N9:=NN
      have NE:=NX
      clear NN NX
      clear o1 g1 l1 E1
      refine hK.out _ _ (BX2.out.next BN.out).c1 (fun hX=>?_)
      clear hK K9 hHeld
      have hHeld:=hX
      clear hX
      try simp only [Act.put,List.setIfInBounds_toArray,List.set_cons_zero,List.set_cons_succ]
      clear BB
      have BB:=BN
      clear BN
      refine wpAnyH_ready (rs:=[10]) (by kernel_rfl) (by simp) ?_
      refine cons2 rfl rfl (fun K9 hK=>?_)
      refine step_append_sa 45 9 (.string ByteArray.empty) 16 Tryd.underlying45 strInfo rfl (by decide) (by rfl) (.tmp 26) (.tmp 29) (by rfl) w2.heap.size _ (sv ls) (by rfl) A6.out (some ⟨b9,0,none⟩) 1 1 [.string nm] (by rfl) N9.out.1 (by have:=LS.out;rw [sv_len];omega) BB.out.size ?_
      intro v2 v20 o2 g2 l2
      have BN:=hid (BB.out.grown g2 BB.out.size (fun k hk=>(A6.out.lt k hk).1))
      obtain ⟨la3,lc3,rfl,s3,h3⟩:=row_of (n:=lt.length) (show Ow v20 9 w2.heap.size v2 (sv lt) from by rw [← HLT.out,sv_app];exact o2) (sv_len lt)
      have S3:=hid s3
      have H3:=hid h3
      clear o2 g2 l2 A6 N9 NE s3 h3
      refine hK.out _ _ (BX2.out.next BN.out).c1 (fun hX=>?_)
      clear hK K9 hHeld
      have hHeld:=hX
      clear hX
      try simp only [Act.put,List.setIfInBounds_toArray,List.set_cons_zero,List.set_cons_succ]
      clear BB
      have BB:=BN
      clear BN
      refine take2 rfl (i:=11) (v:=.pointer (some ⟨p,0,none⟩)) (d:=31) rfl rfl (by kernel_rfl) (by kernel_rfl) (by kernel_rfl) (fun _ _ _ h=>h) (Or.inl ⟨by rfl,?_⟩) hHeld ?_
      ·(intro W hW;(try dsimp only at hW);go_simp)
      try simp only [Act.put,List.setIfInBounds_toArray,List.set_cons_zero,List.set_cons_succ]
      refine take2 rfl (i:=12) (v:=.pointer (some ⟨p,6,none⟩)) (d:=32) rfl rfl (by kernel_rfl) (by kernel_rfl) (by kernel_rfl) (fun _ _ _ h=>h) (Or.inl ⟨by rfl,?_⟩) hHeld ?_
      ·(intro W hW;(try dsimp only at hW);go_simp)
      try simp only [Act.put,List.setIfInBounds_toArray,List.set_cons_zero,List.set_cons_succ]
      have c6:=(C2.out.ck.next BB.out).c6
      have z6:=(C2.out.ck.next BB.out).fz 6
      have CN:=hid ((C2.out.next BB.out).cr.setl (fun g s=>HS.out g s.1) S3.out (fun x e=>⟨by have:=(H3.out x e).1;have:=PW.out;omega,(H3.out x e).2⟩))
      have GN:=hid (((Gr.refl w2 p).below BB.out).set (i:=6) (.slice la3 lt.length lc3))
      refine wpAnyH_ready (rs:=[13]) (by kernel_rfl) (by simp) ?_
      refine cons2 rfl rfl (fun K9 hK=>?_)
      go_simp
      refine hK.out _ _ ((BX2.out.next BB.out).put (q:=p) (i:=6) (by have:=PQ.out;omega) (.slice la3 lt.length lc3)).c1 (fun hX=>?_)
      clear hK K9 hHeld hX c6 z6
      try simp only [Act.put,List.setIfInBounds_toArray,List.set_cons_zero,List.set_cons_succ]
      refine wpAnyH_done (by kernel_rfl) ?_ _
      go_wp2
      go_meet
      exact ⟨rfl,la3,lc3,CN.out,GN.out,fun x e=>(H3.out x e).1⟩
    ·have bA:=(show Below v0.heap.size v0 (v0.alloc (.cells #[.string nm] 9)) from (Below.refl _ _).alloc (Nat.le_refl _) _)
     have BN:=hid (nextB BB.out bA)
     have NN:=hid (show Sl (v0.alloc (.cells #[.string nm] 9)) (some ⟨v0.heap.size,0,none⟩) 1 1 [.string nm]∧v0.heap.size<(v0.alloc (.cells #[.string nm] 9)).heap.size from ⟨sl_new v0 (.string nm) 9 rfl,by simp⟩)
     clear bA
     go_simp
     refine hK.out _ _ (BX2.out.next BN.out).c1 (fun hX=>?_)
     clear hK K9 hHeld
     have hHeld:=hX
     clear hX
     try simp only [Act.put,List.setIfInBounds_toArray,List.set_cons_zero,List.set_cons_succ]
     clear BB
     have BB:=BN
     clear BN
     have N9:=NN
     clear NN
     generalize World.alloc v0 _=v21 at *
     generalize v0.heap.size=b9 at *
     refine wpAnyH_ready (rs:=[1]) (by kernel_rfl) (by simp) ?_
     refine cons2 rfl rfl (fun K9 hK=>?_)
     have bA:=(show Below v21.heap.size v21 (v21.alloc (.cells #[] 9)) from (Below.refl _ _).alloc (Nat.le_refl _) _)
     have BN:=hid (nextB BB.out bA)
     have EN:=hid ((ow_empty v21 9).mono (b':=w2.heap.size) BB.out.size)
     have NN:=hid (And.intro (N9.out.1.below bA) (Nat.lt_of_lt_of_le N9.out.2 bA.size))
     have NE:=hid (show v21.heap.size≠b9 from by have:=N9.out.2;omega)
     clear bA
     go_simp
     refine hK.out _ _ (BX2.out.next BN.out).c1 (fun hX=>?_)
     clear hK K9 hHeld
     have hHeld:=hX
     clear hX
     try simp only [Act.put,List.setIfInBounds_toArray,List.set_cons_zero,List.set_cons_succ]
     clear BB
     have BB:=BN
     clear BN
     have E1:=EN
     clear EN
     clear N9
     have N9:=NN
     clear NN
     generalize World.alloc v21 _=v22 at *
     generalize v21.heap.size=e1 at *
     refine wpAnyH_ready (rs:=[6]) (by kernel_rfl) (by simp) ?_
     refine cons2 rfl rfl (fun K9 hK=>?_)
     refine step_append_sa 45 9 (.string ByteArray.empty) 16 Tryd.underlying45 strInfo rfl (by decide) (by rfl) (.tmp 21) (.tmp 25) (by rfl) w2.heap.size _ [] (by rfl) E1.out la2 ls.length lc2 (sv ls) (by rfl) (C2.out.rl.below BB.out) (by have:=LS.out;simp;omega) BB.out.size ?_
     intro v1 v23 o1 g1 l1
     rw [List.nil_append] at o1
     have BN:=hid (BB.out.grown g1 BB.out.size (fun k hk=>(E1.out.lt k hk).1))
     have A6:=hid o1
     have NN:=hid (And.intro (N9.out.1.grown g1 (fun _ x hx e=>by injection hx with hx;subst hx;exact NE.out (by injection e with e;exact e.symm))) (Nat.lt_of_lt_of_le N9.out.2 g1.size))
     have NX:=hid (Lies.ne l1 N9.out.2 (fun e=>NE.out (by injection e)))
     clear N9 NE
     have N9:=NN
     have NE:=NX
     clear NN NX
     clear o1 g1 l1 E1
     refine hK.out _ _ (BX2.out.next BN.out).c1 (fun hX=>?_)
     clear hK K9 hHeld
     have hHeld:=hX
     clear hX
     try simp only [Act.put,List.setIfInBounds_toArray,List.set_cons_zero,List.set_cons_succ]
     clear BB
     have BB:=BN
     clear BN
     refine wpAnyH_ready (rs:=[10]) (by kernel_rfl) (by simp) ?_
     refine cons2 rfl rfl (fun K9 hK=>?_)
     refine step_append_sa 45 9 (.string ByteArray.empty) 16 Tryd.underlying45 strInfo rfl (by decide) (by rfl) (.tmp 26) (.tmp 29) (by rfl) w2.heap.size _ (sv ls) (by rfl) A6.out (some ⟨b9,0,none⟩) 1 1 [.string nm] (by rfl) N9.out.1 (by have:=LS.out;rw [sv_len];omega) BB.out.size ?_
     intro v2 v24 o2 g2 l2
     have BN:=hid (BB.out.grown g2 BB.out.size (fun k hk=>(A6.out.lt k hk).1))
     obtain ⟨la3,lc3,rfl,s3,h3⟩:=row_of (n:=lt.length) (show Ow v24 9 w2.heap.size v2 (sv lt) from by rw [← HLT.out,sv_app];exact o2) (sv_len lt)
     have S3:=hid s3
     have H3:=hid h3
     clear o2 g2 l2 A6 N9 NE s3 h3
     refine hK.out _ _ (BX2.out.next BN.out).c1 (fun hX=>?_)
     clear hK K9 hHeld
     have hHeld:=hX
     clear hX
     try simp only [Act.put,List.setIfInBounds_toArray,List.set_cons_zero,List.set_cons_succ]
     clear BB
     have BB:=BN
     clear BN
     refine take2 rfl (i:=11) (v:=.pointer (some ⟨p,0,none⟩)) (d:=31) rfl rfl (by kernel_rfl) (by kernel_rfl) (by kernel_rfl) (fun _ _ _ h=>h) (Or.inl ⟨by rfl,?_⟩) hHeld ?_
     ·(intro W hW;(try dsimp only at hW);go_simp)
     try simp only [Act.put,List.setIfInBounds_toArray,List.set_cons_zero,List.set_cons_succ]
     refine take2 rfl (i:=12) (v:=.pointer (some ⟨p,6,none⟩)) (d:=32) rfl rfl (by kernel_rfl) (by kernel_rfl) (by kernel_rfl) (fun _ _ _ h=>h) (Or.inl ⟨by rfl,?_⟩) hHeld ?_
     ·(intro W hW;(try dsimp only at hW);go_simp)
     try simp only [Act.put,List.setIfInBounds_toArray,List.set_cons_zero,List.set_cons_succ]
     have c6:=(C2.out.ck.next BB.out).c6
     have z6:=(C2.out.ck.next BB.out).fz 6
     have CN:=hid ((C2.out.next BB.out).cr.setl (fun g s=>HS.out g s.1) S3.out (fun x e=>⟨by have:=(H3.out x e).1;have:=PW.out;omega,(H3.out x e).2⟩))
     have GN:=hid (((Gr.refl w2 p).below BB.out).set (i:=6) (.slice la3 lt.length lc3))
     refine wpAnyH_ready (rs:=[13]) (by kernel_rfl) (by simp) ?_
     refine cons2 rfl rfl (fun K9 hK=>?_)
     go_simp
     refine hK.out _ _ ((BX2.out.next BB.out).put (q:=p) (i:=6) (by have:=PQ.out;omega) (.slice la3 lt.length lc3)).c1 (fun hX=>?_)
     clear hK K9 hHeld hX c6 z6
     try simp only [Act.put,List.setIfInBounds_toArray,List.set_cons_zero,List.set_cons_succ]
     refine wpAnyH_done (by kernel_rfl) ?_ _
     go_wp2
     go_meet
     exact ⟨rfl,la3,lc3,CN.out,GN.out,fun x e=>(H3.out x e).1⟩
   ·have bA:=(show Below v0.heap.size v0 (v0.alloc (.cells #[.string nm] 9)) from (Below.refl _ _).alloc (Nat.le_refl _) _)
    have BN:=hid (nextB BB.out bA)
    have NN:=hid (show Sl (v0.alloc (.cells #[.string nm] 9)) (some ⟨v0.heap.size,0,none⟩) 1 1 [.string nm]∧v0.heap.size<(v0.alloc (.cells #[.string nm] 9)).heap.size from ⟨sl_new v0 (.string nm) 9 rfl,by simp⟩)
    clear bA
    go_simp
    refine hK.out _ _ (BX2.out.next BN.out).c1 (fun hX=>?_)
    clear hK K9 hHeld
    have hHeld:=hX
    clear hX
    try simp only [Act.put,List.setIfInBounds_toArray,List.set_cons_zero,List.set_cons_succ]
    clear BB
    have BB:=BN
    clear BN
    have N9:=NN
    clear NN
    generalize World.alloc v0 _=v25 at *
    generalize v0.heap.size=b9 at *
    refine wpAnyH_ready (rs:=[1,5]) (by kernel_rfl) (by simp) ?_
    refine cons22 rfl rfl rfl (fun K9 hK=>?_) (fun K9 hK=>?_)
    ·have bA:=(show Below v25.heap.size v25 (v25.alloc (.cells #[] 9)) from (Below.refl _ _).alloc (Nat.le_refl _) _)
     have BN:=hid (nextB BB.out bA)
     have EN:=hid ((ow_empty v25 9).mono (b':=w2.heap.size) BB.out.size)
     have NN:=hid (And.intro (N9.out.1.below bA) (Nat.lt_of_lt_of_le N9.out.2 bA.size))
     have NE:=hid (show v25.heap.size≠b9 from by have:=N9.out.2;omega)
     clear bA
     go_simp
     refine hK.out _ _ (BX2.out.next BN.out).c1 (fun hX=>?_)
     clear hK K9 hHeld
     have hHeld:=hX
     clear hX
     try simp only [Act.put,List.setIfInBounds_toArray,List.set_cons_zero,List.set_cons_succ]
     clear BB
     have BB:=BN
     clear BN
     have E1:=EN
     clear EN
     clear N9
     have N9:=NN
     clear NN
     generalize World.alloc v25 _=v26 at *
     generalize v25.heap.size=e1 at *
     refine wpAnyH_ready (rs:=[5]) (by kernel_rfl) (by simp) ?_
     refine cons2 rfl rfl (fun K9 hK=>?_)
     have c6:=(C2.out.ck.next BB.out).c6
     go_simp
     (try go_wp2_with fail)
     refine hK.out _ _ (BX2.out.next BB.out).c1 (fun hX=>?_)
     clear hK K9 hHeld
     have hHeld:=hX
     clear hX
     try simp only [Act.put,List.setIfInBounds_toArray,List.set_cons_zero,List.set_cons_succ]
     clear c6
     refine wpAnyH_ready (rs:=[6]) (by kernel_rfl) (by simp) ?_
     refine cons2 rfl rfl (fun K9 hK=>?_)
     refine step_append_sa 45 9 (.string ByteArray.empty) 16 Tryd.underlying45 strInfo rfl (by decide) (by rfl) (.tmp 21) (.tmp 25) (by rfl) w2.heap.size _ [] (by rfl) E1.out la2 ls.length lc2 (sv ls) (by rfl) (C2.out.rl.below BB.out) (by have:=LS.out;simp;omega) BB.out.size ?_
     intro v1 v28 o1 g1 l1
     rw [List.nil_append] at o1
     have BN:=hid (BB.out.grown g1 BB.out.size (fun k hk=>(E1.out.lt k hk).1))
     have A6:=hid o1
     have NN:=hid (And.intro (N9.out.1.grown g1 (fun _ x hx e=>by injection hx with hx;subst hx;exact NE.out (by injection e with e;exact e.symm))) (Nat.lt_of_lt_of_le N9.out.2 g1.size))
     have NX:=hid (Lies.ne l1 N9.out.2 (fun e=>NE.out (by injection e)))
     clear N9 NE
     have N9:=NN
     have NE:=NX
     clear NN NX
     clear o1 g1 l1 E1
     refine hK.out _ _ (BX2.out.next BN.out).c1 (fun hX=>?_)
     clear hK K9 hHeld
     have hHeld:=hX
     clear hX
     try simp only [Act.put,List.setIfInBounds_toArray,List.set_cons_zero,List.set_cons_succ]
     clear BB
     have BB:=BN
     clear BN
     refine wpAnyH_ready (rs:=[10]) (by kernel_rfl) (by simp) ?_
     refine cons2 rfl rfl (fun K9 hK=>?_)
     refine step_append_sa 45 9 (.string ByteArray.empty) 16 Tryd.underlying45 strInfo rfl (by decide) (by rfl) (.tmp 26) (.tmp 29) (by rfl) w2.heap.size _ (sv ls) (by rfl) A6.out (some ⟨b9,0,none⟩) 1 1 [.string nm] (by rfl) N9.out.1 (by have:=LS.out;rw [sv_len];omega) BB.out.size ?_
     intro v2 v29 o2 g2 l2
     have BN:=hid (BB.out.grown g2 BB.out.size (fun k hk=>(A6.out.lt k hk).1))
     obtain ⟨la3,lc3,rfl,s3,h3⟩:=row_of (n:=lt.length) (show Ow v29 9 w2.heap.size v2 (sv lt) from by rw [← HLT.out,sv_app];exact o2) (sv_len lt)
     have S3:=hid s3
     have H3:=hid h3
     clear o2 g2 l2 A6 N9 NE s3 h3
     refine hK.out _ _ (BX2.out.next BN.out).c1 (fun hX=>?_)
     clear hK K9 hHeld
     have hHeld:=hX
     clear hX
     try simp only [Act.put,List.setIfInBounds_toArray,List.set_cons_zero,List.set_cons_succ]
     clear BB
     have BB:=BN
     clear BN
     refine take2 rfl (i:=11) (v:=.pointer (some ⟨p,0,none⟩)) (d:=31) rfl rfl (by kernel_rfl) (by kernel_rfl) (by kernel_rfl) (fun _ _ _ h=>h) (Or.inl ⟨by rfl,?_⟩) hHeld ?_
     ·(intro W hW;(try dsimp only at hW);go_simp)
     try simp only [Act.put,List.setIfInBounds_toArray,List.set_cons_zero,List.set_cons_succ]
     refine take2 rfl (i:=12) (v:=.pointer (some ⟨p,6,none⟩)) (d:=32) rfl rfl (by kernel_rfl) (by kernel_rfl) (by kernel_rfl) (fun _ _ _ h=>h) (Or.inl ⟨by rfl,?_⟩) hHeld ?_
     ·(intro W hW;(try dsimp only at hW);go_simp)
     try simp only [Act.put,List.setIfInBounds_toArray,List.set_cons_zero,List.set_cons_succ]
     have c6:=(C2.out.ck.next BB.out).c6
     have z6:=(C2.out.ck.next BB.out).fz 6
     have CN:=hid ((C2.out.next BB.out).cr.setl (fun g s=>HS.out g s.1) S3.out (fun x e=>⟨by have:=(H3.out x e).1;have:=PW.out;omega,(H3.out x e).2⟩))
     have GN:=hid (((Gr.refl w2 p).below BB.out).set (i:=6) (.slice la3 lt.length lc3))
     refine wpAnyH_ready (rs:=[13]) (by kernel_rfl) (by simp) ?_
     refine cons2 rfl rfl (fun K9 hK=>?_)
     go_simp
     refine hK.out _ _ ((BX2.out.next BB.out).put (q:=p) (i:=6) (by have:=PQ.out;omega) (.slice la3 lt.length lc3)).c1 (fun hX=>?_)
     clear hK K9 hHeld hX c6 z6
     try simp only [Act.put,List.setIfInBounds_toArray,List.set_cons_zero,List.set_cons_succ]
     refine wpAnyH_done (by kernel_rfl) ?_ _
     go_wp2
     go_meet
     exact ⟨rfl,la3,lc3,CN.out,GN.out,fun x e=>(H3.out x e).1⟩
    ·have c6:=(C2.out.ck.next BB.out).c6
     go_simp
     (try go_wp2_with fail)
     refine hK.out _ _ (BX2.out.next BB.out).c1 (fun hX=>?_)
     clear hK K9 hHeld
     have hHeld:=hX
     clear hX
     try simp only [Act.put,List.setIfInBounds_toArray,List.set_cons_zero,List.set_cons_succ]
     clear c6
     refine wpAnyH_ready (rs:=[1]) (by kernel_rfl) (by simp) ?_
     refine cons2 rfl rfl (fun K9 hK=>?_)
     have bA:=(show Below v25.heap.size v25 (v25.alloc (.cells #[] 9)) from (Below.refl _ _).alloc (Nat.le_refl _) _)
     have BN:=hid (nextB BB.out bA)
     have EN:=hid ((ow_empty v25 9).mono (b':=w2.heap.size) BB.out.size)
     have NN:=hid (And.intro (N9.out.1.below bA) (Nat.lt_of_lt_of_le N9.out.2 bA.size))
     have NE:=hid (show v25.heap.size≠b9 from by have:=N9.out.2;omega)
     clear bA
     go_simp
     refine hK.out _ _ (BX2.out.next BN.out).c1 (fun hX=>?_)
     clear hK K9 hHeld
     have hHeld:=hX
     clear hX
     try simp only [Act.put,List.setIfInBounds_toArray,List.set_cons_zero,List.set_cons_succ]
     clear BB
     have BB:=BN
     clear BN
     have E1:=EN
     clear EN
     clear N9
     have N9:=NN
     clear NN
     generalize World.alloc v25 _=v31 at *
     generalize v25.heap.size=e1 at *
     refine wpAnyH_ready (rs:=[6]) (by kernel_rfl) (by simp) ?_
     refine cons2 rfl rfl (fun K9 hK=>?_)
     refine step_append_sa 45 9 (.string ByteArray.empty) 16 Tryd.underlying45 strInfo rfl (by decide) (by rfl) (.tmp 21) (.tmp 25) (by rfl) w2.heap.size _ [] (by rfl) E1.out la2 ls.length lc2 (sv ls) (by rfl) (C2.out.rl.below BB.out) (by have:=LS.out;simp;omega) BB.out.size ?_
     intro v1 v32 o1 g1 l1
     rw [List.nil_append] at o1
     have BN:=hid (BB.out.grown g1 BB.out.size (fun k hk=>(E1.out.lt k hk).1))
     have A6:=hid o1
     have NN:=hid (And.intro (N9.out.1.grown g1 (fun _ x hx e=>by injection hx with hx;subst hx;exact NE.out (by injection e with e;exact e.symm))) (Nat.lt_of_lt_of_le N9.out.2 g1.size))
     have NX:=hid (Lies.ne l1 N9.out.2 (fun e=>NE.out (by injection e)))
     clear N9 NE
     have N9:=NN
     have NE:=NX
     clear NN NX
     clear o1 g1 l1 E1
     refine hK.out _ _ (BX2.out.next BN.out).c1 (fun hX=>?_)
     clear hK K9 hHeld
     have hHeld:=hX
     clear hX
     try simp only [Act.put,List.setIfInBounds_toArray,List.set_cons_zero,List.set_cons_succ]
     clear BB
     have BB:=BN
     clear BN
     refine wpAnyH_ready (rs:=[10]) (by kernel_rfl) (by simp) ?_
     refine cons2 rfl rfl (fun K9 hK=>?_)
     refine step_append_sa 45 9 (.string ByteArray.empty) 16 Tryd.underlying45 strInfo rfl (by decide) (by rfl) (.tmp 26) (.tmp 29) (by rfl) w2.heap.size _ (sv ls) (by rfl) A6.out (some ⟨b9,0,none⟩) 1 1 [.string nm] (by rfl) N9.out.1 (by have:=LS.out;rw [sv_len];omega) BB.out.size ?_
     intro v2 v33 o2 g2 l2
     have BN:=hid (BB.out.grown g2 BB.out.size (fun k hk=>(A6.out.lt k hk).1))
     obtain ⟨la3,lc3,rfl,s3,h3⟩:=row_of (n:=lt.length) (show Ow v33 9 w2.heap.size v2 (sv lt) from by rw [← HLT.out,sv_app];exact o2) (sv_len lt)
     have S3:=hid s3
     have H3:=hid h3
     clear o2 g2 l2 A6 N9 NE s3 h3
     refine hK.out _ _ (BX2.out.next BN.out).c1 (fun hX=>?_)
     clear hK K9 hHeld
     have hHeld:=hX
     clear hX
     try simp only [Act.put,List.setIfInBounds_toArray,List.set_cons_zero,List.set_cons_succ]
     clear BB
     have BB:=BN
     clear BN
     refine take2 rfl (i:=11) (v:=.pointer (some ⟨p,0,none⟩)) (d:=31) rfl rfl (by kernel_rfl) (by kernel_rfl) (by kernel_rfl) (fun _ _ _ h=>h) (Or.inl ⟨by rfl,?_⟩) hHeld ?_
     ·(intro W hW;(try dsimp only at hW);go_simp)
     try simp only [Act.put,List.setIfInBounds_toArray,List.set_cons_zero,List.set_cons_succ]
     refine take2 rfl (i:=12) (v:=.pointer (some ⟨p,6,none⟩)) (d:=32) rfl rfl (by kernel_rfl) (by kernel_rfl) (by kernel_rfl) (fun _ _ _ h=>h) (Or.inl ⟨by rfl,?_⟩) hHeld ?_
     ·(intro W hW;(try dsimp only at hW);go_simp)
     try simp only [Act.put,List.setIfInBounds_toArray,List.set_cons_zero,List.set_cons_succ]
     have c6:=(C2.out.ck.next BB.out).c6
     have z6:=(C2.out.ck.next BB.out).fz 6
     have CN:=hid ((C2.out.next BB.out).cr.setl (fun g s=>HS.out g s.1) S3.out (fun x e=>⟨by have:=(H3.out x e).1;have:=PW.out;omega,(H3.out x e).2⟩))
     have GN:=hid (((Gr.refl w2 p).below BB.out).set (i:=6) (.slice la3 lt.length lc3))
     refine wpAnyH_ready (rs:=[13]) (by kernel_rfl) (by simp) ?_
     refine cons2 rfl rfl (fun K9 hK=>?_)
     go_simp
     refine hK.out _ _ ((BX2.out.next BB.out).put (q:=p) (i:=6) (by have:=PQ.out;omega) (.slice la3 lt.length lc3)).c1 (fun hX=>?_)
     clear hK K9 hHeld hX c6 z6
     try simp only [Act.put,List.setIfInBounds_toArray,List.set_cons_zero,List.set_cons_succ]
     refine wpAnyH_done (by kernel_rfl) ?_ _
     go_wp2
     go_meet
     exact ⟨rfl,la3,lc3,CN.out,GN.out,fun x e=>(H3.out x e).1⟩
  case rest =>
   obtain ⟨rfl,la3,lc3,c3,g3,f5⟩:=hcut
   have C3:=hid c3
   have F5:=hid (show Fr w la la3 from fun x e=>.inr (by have:=f5 x e;have:=G2.out.size;omega))
   have G3:=hid (G2.out.trans g3)
   have BX3:=hid (BX2.out.gr g3 (by have:=PQ.out;omega))
   have NY3:=hid (NY2.out.keep (g3.bl (World.block_lt_of_cell? _ _ NY2.out.e0) GP.out))
   have KY3:=hid (KY2.out.keep (S':=fun g=>S2 g∧g<w.heap.size) fun g s l=>⟨s,g3.bl l (HT.out g s.1)⟩)
   have F6:=hid (show ∀ x,ka2=some x→x.block<wc.heap.size from fun x e=>(c3.nk x e).2)
   clear c3 g3 f5 C2 G2 BX2 NY2 KY2
   obtain ⟨w3,ew3⟩:∃ x,x=wc:=⟨_,rfl⟩
   subst ew3
   have BA:=hid (show Below w3.heap.size w3 (w3.alloc (.cells #[] 3)) from (Below.refl _ _).alloc (Nat.le_refl _) _)
   have c7:=(C3.out.ck.next BA.out).c7
   go_upto_region 6 with (first | (at_builtin;refine wpList_append_sa 66 3 (.int .i64 0) 8 Tryd.underlying66 intInfo11 rfl (by decide) rfl (.tmp 34) (.tmp 38) rfl w3.heap.size _ [] rfl (ow_empty w3 3) ka2 ls.length kc2 (thr ls.length) rfl (C3.out.rk.below BA.out) (by have:=LS.out;simp;omega) BA.out.size ?_;intro v4 w4 o4 g4 _;rw [List.nil_append] at o4;have O4:=hid (o4.below ((Below.refl _ _).alloc (Nat.le_refl _) (.cells #[.int .i64 3] 3)));have B4:=hid (BA.out.grown g4 BA.out.size (fun k hk=>((ow_empty w3 3).lt k hk).1));have B5:=hid (nextB B4.out (show Below w4.heap.size w4 (w4.alloc (.cells #[.int .i64 3] 3)) from (Below.refl _ _).alloc (Nat.le_refl _) _));clear o4 g4) | (at_builtin;refine wpList_append_sa 66 3 (.int .i64 0) 8 Tryd.underlying66 intInfo11 rfl (by decide) rfl (.tmp 39) (.tmp 40) rfl w3.heap.size _ (thr ls.length) rfl O4.out (some ⟨w4.heap.size,0,none⟩) 1 1 [.int .i64 3] rfl (sl_new w4 (.int .i64 3) 3 rfl) (by have:=LS.out;rw [thr_sz];omega) B5.out.size ?_;intro v5 w5 o5 g5 _;have B6':=hid (B5.out.grown g5 B5.out.size (fun k hk=>(O4.out.lt k hk).1));obtain ⟨ka3,kc3,rfl,s5,h5⟩:=row_of (n:=lt.length) (show Ow w5 3 w3.heap.size v5 (thr lt.length) from by rw [LTL.out,← thr_succ];exact o5) (thr_sz _);have S5:=hid s5;have H5:=hid h5;have c7:=(C3.out.ck.next B6'.out).c7;have z7:=(C3.out.ck.next B6'.out).fz 7;clear o5 g5 s5 h5))
   (try clear c7)
   (try clear c7)
   (try clear z7)
   have C6:=hid (((C3.out.next B6'.out).setk (fun g s=>HS.out g s.1) S5.out (fun x e=>⟨by have:=(H5.out x e).1;have:=C3.out.ck.pl;omega,(H5.out x e).2⟩)).cq rfl)
   have G6:=hid ((G3.out.below B6'.out).set (i:=7) (.slice ka3 lt.length kc3))
   have BX6:=hid ((BX3.out.next B6'.out).put (q:=p) (i:=7) (by have:=PQ.out;omega) (.slice ka3 lt.length kc3))
   have NY6:=hid ((NY3.out.keep (B6'.out.block g (World.block_lt_of_cell? _ _ NY3.out.e0))).keep (Below.heap_setCell w5 ⟨p,7,none⟩ (.slice ka3 lt.length kc3) g GP.out))
   have KY6:=hid (KY3.out.keep (S':=fun g=>S2 g∧g<w.heap.size) fun g s l=>⟨s,(Below.heap_setCell w5 ⟨p,7,none⟩ (.slice ka3 lt.length kc3) g (HT.out g s.1)).trans (B6'.out.block g l)⟩)
   have FK:=hid (show Fr w ka ka3 from fun x e=>.inr (by have:=(H5.out x e).1;have:=G3.out.size;omega))
   clear C3 G3 BX3 NY3 KY3 O4 B4 B5 BA B6' S5 H5 F6
   generalize World.setCell w5 ⟨p,7,none⟩ _=w6 at *
   have KY:=hid (HY.out _ _ w6 la3 lc3 ka3 kc3 _ (fun g s=>HS.out g s.1) (fun g s=>HT.out g s.1) C6.out KY6.out)
   unfold OfP at KY
   generalize chk t.kids [] lt.reverse y=ky at *
   have e5:=BX6.out.c5
   have n0:=NY6.out.e0
   have n1:=NY6.out.e1
   have n2:=NY6.out.e2
   have n3:=NY6.out.e3
   have n4:=NY6.out.e4
   have n5:=NY6.out.e5
   simp only [Nat.reduceAdd] at n1 n2 n3 n4 n5
   go_upto_region 7 with (go_at_call 30;(with_reducible refine Calls.mono KY.out ?_);rintro e w7 ⟨rfl,h7,g7⟩;obtain ⟨la4,lc4,ka4,kc4,c7,f7,f8⟩:=h7;have C7:=hid c7;have FA:=hid (F5.out.trans f7 G6.out.size);have FB:=hid (FK.out.trans f8 G6.out.size);have G7:=hid (G6.out.trans g7);have BX7:=hid (BX6.out.gr g7 (by have:=PQ.out;omega));clear c7 f7 f8 g7)
   clear n0 n1 n2 n3 n4 n5 e5 NY6 KY6 BX6 G6 C6 KY F5 FK F3 F4
   obtain ⟨b,o8,ea,_⟩:=C7.out.rl.at (by have:=LTL.out;omega)
   obtain ⟨b2,o9,eb,_⟩:=C7.out.rk.at (by have:=LTL.out;omega)
   subst ea eb
   have LB:(ls.length:Int)≤99:=by have:=LS.out;omega
   have hw1:IntKind.i64.wrap ((ls.length:Int)+1 - 1)=(ls.length:Int):=by go_arith
   have hw2:IntKind.i64.wrap (ls.length:Int)=(ls.length:Int):=by go_arith
   have LC:=hid (show ls.length≤lc4 from by have:=C7.out.rl.fits;have:=LTL.out;omega)
   have LK:=hid (show ls.length≤kc4 from by have:=C7.out.rk.fits;have:=LTL.out;omega)
   have U6:=hid (cut_upto11 Tryd.underlying45 strInfo b o8 (ls.length+1) lc4 ls.length _ rfl LC.out)
   have U7:=hid (cut_upto11 Tryd.underlying66 intInfo11 b2 o9 (ls.length+1) kc4 ls.length _ rfl LK.out)
   have C8:=hid ((C7.out.next (show Below w7.heap.size w7 w7.drew from (Below.refl _ _).drew)).cr.setl (ls':=ls) (fun g s=>HS.out g s.1) (show Sl w7.drew (some ⟨b,o8,none⟩) ls.length lc4 (sv ls) from by
    have q:=((C7.out.next (show Below w7.heap.size w7 w7.drew from (Below.refl _ _).drew)).rl).take (k:=ls.length) (by have:=LTL.out;omega)
    rw [sv_take,← HLT.out,List.take_left'] at q
    ·exact q
    ·rfl) (fun x e=>(C7.out.next (show Below w7.heap.size w7 w7.drew from (Below.refl _ _).drew)).nl x e))
   have G8:=hid ((G7.out.below (show Below w7.heap.size w7 w7.drew from (Below.refl _ _).drew)).set (i:=6) (.slice (some ⟨b,o8,none⟩) ls.length lc4))
   have BX8:=hid ((BX7.out.next (show Below w7.heap.size w7 w7.drew from (Below.refl _ _).drew)).put (q:=p) (i:=6) (by have:=PQ.out;omega) (.slice (some ⟨b,o8,none⟩) ls.length lc4))
   go_cut [5,6] from 50 to 63 (fun s5 s6 wx=>s5=.int .i64 kx.1∧s6=.int .i64 ky.1∧Hid (wx=w7.drew.setCell ⟨p,6,none⟩ (.slice (some ⟨b,o8,none⟩) ls.length lc4)))
   case first =>
    have c6:w7.drew.cell? ⟨p,6,none⟩=some (.slice (some ⟨b,o8,none⟩) (ls.length+1) lc4):=by have:=(C7.out.ck.next (show Below w7.heap.size w7 w7.drew from (Below.refl _ _).drew)).c6;rwa [LTL.out] at this
    have z6:=(C7.out.ck.next (show Below w7.heap.size w7 w7.drew from (Below.refl _ _).drew)).fz 6
    clear C8 G8 BX8
    refine wp_region_held_drew (S:=fun W=>True) (by kernel_rfl) trivial (fun hHeld=>?_)
    refine take2 rfl (i:=0) (v:=.pointer (some ⟨p,0,none⟩)) (d:=50) rfl rfl (by kernel_rfl) (by kernel_rfl) (by kernel_rfl) (fun _ _ _ h=>h) (Or.inl ⟨by rfl,?_⟩) hHeld ?_
    ·(intro W hW;(try dsimp only at hW);go_simp)
    try simp only [Act.put,List.setIfInBounds_toArray,List.set_cons_zero,List.set_cons_succ]
    refine take2 rfl (i:=1) (v:=.pointer (some ⟨p,0,none⟩)) (d:=51) rfl rfl (by kernel_rfl) (by kernel_rfl) (by kernel_rfl) (fun _ _ _ h=>h) (Or.inl ⟨by rfl,?_⟩) hHeld ?_
    ·(intro W hW;(try dsimp only at hW);go_simp)
    try simp only [Act.put,List.setIfInBounds_toArray,List.set_cons_zero,List.set_cons_succ]
    refine take2 rfl (i:=2) (v:=.pointer (some ⟨p,0,none⟩)) (d:=52) rfl rfl (by kernel_rfl) (by kernel_rfl) (by kernel_rfl) (fun _ _ _ h=>h) (Or.inl ⟨by rfl,?_⟩) hHeld ?_
    ·(intro W hW;(try dsimp only at hW);go_simp)
    try simp only [Act.put,List.setIfInBounds_toArray,List.set_cons_zero,List.set_cons_succ]
    refine take2 rfl (i:=3) (v:=.pointer (some ⟨p,6,none⟩)) (d:=53) rfl rfl (by kernel_rfl) (by kernel_rfl) (by kernel_rfl) (fun _ _ _ h=>h) (Or.inl ⟨by rfl,?_⟩) hHeld ?_
    ·(intro W hW;(try dsimp only at hW);go_simp)
    try simp only [Act.put,List.setIfInBounds_toArray,List.set_cons_zero,List.set_cons_succ]
    refine take2 rfl (i:=5) (v:=.pointer (some ⟨p,0,none⟩)) (d:=55) rfl rfl (by kernel_rfl) (by kernel_rfl) (by kernel_rfl) (fun _ _ _ h=>h) (Or.inl ⟨by rfl,?_⟩) hHeld ?_
    ·(intro W hW;(try dsimp only at hW);go_simp)
    try simp only [Act.put,List.setIfInBounds_toArray,List.set_cons_zero,List.set_cons_succ]
    refine take2 rfl (i:=6) (v:=.pointer (some ⟨p,0,none⟩)) (d:=56) rfl rfl (by kernel_rfl) (by kernel_rfl) (by kernel_rfl) (fun _ _ _ h=>h) (Or.inl ⟨by rfl,?_⟩) hHeld ?_
    ·(intro W hW;(try dsimp only at hW);go_simp)
    try simp only [Act.put,List.setIfInBounds_toArray,List.set_cons_zero,List.set_cons_succ]
    refine take2 rfl (i:=7) (v:=.pointer (some ⟨p,6,none⟩)) (d:=57) rfl rfl (by kernel_rfl) (by kernel_rfl) (by kernel_rfl) (fun _ _ _ h=>h) (Or.inl ⟨by rfl,?_⟩) hHeld ?_
    ·(intro W hW;(try dsimp only at hW);go_simp)
    try simp only [Act.put,List.setIfInBounds_toArray,List.set_cons_zero,List.set_cons_succ]
    refine wpAnyH_ready (rs:=[4,8]) (by kernel_rfl) (by simp) ?_
    refine cons22 rfl rfl rfl (fun K9 hK=>?_) (fun K9 hK=>?_)
    ·go_simp
     (try go_wp2_with fail)
     refine hK.out _ _ trivial (fun hX=>?_)
     clear hK K9 hHeld
     have hHeld:=hX
     clear hX
     try simp only [Act.put,List.setIfInBounds_toArray,List.set_cons_zero,List.set_cons_succ]
     refine wpAnyH_ready (rs:=[8]) (by kernel_rfl) (by simp) ?_
     refine cons2 rfl rfl (fun K9 hK=>?_)
     go_simp
     (try go_wp2_with fail)
     refine hK.out _ _ trivial (fun hX=>?_)
     clear hK K9 hHeld
     have hHeld:=hX
     clear hX
     try simp only [Act.put,List.setIfInBounds_toArray,List.set_cons_zero,List.set_cons_succ]
     refine take2 rfl (i:=9) (v:=.int .i64 ((ls.length:Int)+1)) (d:=59) rfl rfl (by kernel_rfl) (by kernel_rfl) (by kernel_rfl) (fun _ _ _ h=>h) (Or.inl ⟨by rfl,?_⟩) hHeld ?_
     ·(intro W hW;(try dsimp only at hW);go_simp)
     try simp only [Act.put,List.setIfInBounds_toArray,List.set_cons_zero,List.set_cons_succ]
     refine take2 rfl (i:=10) (v:=.int .i64 (ls.length:Nat)) (d:=60) rfl rfl (by kernel_rfl) (by kernel_rfl) (by kernel_rfl) (fun _ _ _ h=>h) (Or.inl ⟨by rfl,?_⟩) hHeld ?_
     ·(intro W hW;(try dsimp only at hW);go_simp)
     try simp only [Act.put,List.setIfInBounds_toArray,List.set_cons_zero,List.set_cons_succ]
     refine take2 rfl (i:=11) (v:=.slice (some ⟨b,o8,none⟩) ls.length lc4) (d:=61) rfl rfl (by kernel_rfl) (by kernel_rfl) (by kernel_rfl) (fun _ _ _ h=>h) (Or.inl ⟨by rfl,?_⟩) hHeld ?_
     ·(intro W hW;(try dsimp only at hW);have c1:=U6.out W;go_simp)
     try simp only [Act.put,List.setIfInBounds_toArray,List.set_cons_zero,List.set_cons_succ]
     refine take2 rfl (i:=12) (v:=.pointer (some ⟨p,0,none⟩)) (d:=62) rfl rfl (by kernel_rfl) (by kernel_rfl) (by kernel_rfl) (fun _ _ _ h=>h) (Or.inl ⟨by rfl,?_⟩) hHeld ?_
     ·(intro W hW;(try dsimp only at hW);go_simp)
     try simp only [Act.put,List.setIfInBounds_toArray,List.set_cons_zero,List.set_cons_succ]
     refine take2 rfl (i:=13) (v:=.pointer (some ⟨p,6,none⟩)) (d:=63) rfl rfl (by kernel_rfl) (by kernel_rfl) (by kernel_rfl) (fun _ _ _ h=>h) (Or.inl ⟨by rfl,?_⟩) hHeld ?_
     ·(intro W hW;(try dsimp only at hW);go_simp)
     try simp only [Act.put,List.setIfInBounds_toArray,List.set_cons_zero,List.set_cons_succ]
     refine wpAnyH_ready (rs:=[14]) (by kernel_rfl) (by simp) ?_
     refine cons2 rfl rfl (fun K9 hK=>?_)
     go_simp
     refine hK.out _ _ trivial (fun hX=>?_)
     clear hK K9 hHeld hX
     try simp only [Act.put,List.setIfInBounds_toArray,List.set_cons_zero,List.set_cons_succ]
     refine wpAnyH_done (by kernel_rfl) ?_ _
     go_wp2
     go_meet
     exact ⟨rfl,rfl,rfl⟩
    ·go_simp
     (try go_wp2_with fail)
     refine hK.out _ _ trivial (fun hX=>?_)
     clear hK K9 hHeld
     have hHeld:=hX
     clear hX
     try simp only [Act.put,List.setIfInBounds_toArray,List.set_cons_zero,List.set_cons_succ]
     refine take2 rfl (i:=9) (v:=.int .i64 ((ls.length:Int)+1)) (d:=59) rfl rfl (by kernel_rfl) (by kernel_rfl) (by kernel_rfl) (fun _ _ _ h=>h) (Or.inl ⟨by rfl,?_⟩) hHeld ?_
     ·(intro W hW;(try dsimp only at hW);go_simp)
     try simp only [Act.put,List.setIfInBounds_toArray,List.set_cons_zero,List.set_cons_succ]
     refine take2 rfl (i:=10) (v:=.int .i64 (ls.length:Nat)) (d:=60) rfl rfl (by kernel_rfl) (by kernel_rfl) (by kernel_rfl) (fun _ _ _ h=>h) (Or.inl ⟨by rfl,?_⟩) hHeld ?_
     ·(intro W hW;(try dsimp only at hW);go_simp)
     try simp only [Act.put,List.setIfInBounds_toArray,List.set_cons_zero,List.set_cons_succ]
     refine wpAnyH_ready (rs:=[4]) (by kernel_rfl) (by simp) ?_
     refine cons2 rfl rfl (fun K9 hK=>?_)
     go_simp
     (try go_wp2_with fail)
     refine hK.out _ _ trivial (fun hX=>?_)
     clear hK K9 hHeld
     have hHeld:=hX
     clear hX
     try simp only [Act.put,List.setIfInBounds_toArray,List.set_cons_zero,List.set_cons_succ]
     refine take2 rfl (i:=11) (v:=.slice (some ⟨b,o8,none⟩) ls.length lc4) (d:=61) rfl rfl (by kernel_rfl) (by kernel_rfl) (by kernel_rfl) (fun _ _ _ h=>h) (Or.inl ⟨by rfl,?_⟩) hHeld ?_
     ·(intro W hW;(try dsimp only at hW);have c1:=U6.out W;go_simp)
     try simp only [Act.put,List.setIfInBounds_toArray,List.set_cons_zero,List.set_cons_succ]
     refine take2 rfl (i:=12) (v:=.pointer (some ⟨p,0,none⟩)) (d:=62) rfl rfl (by kernel_rfl) (by kernel_rfl) (by kernel_rfl) (fun _ _ _ h=>h) (Or.inl ⟨by rfl,?_⟩) hHeld ?_
     ·(intro W hW;(try dsimp only at hW);go_simp)
     try simp only [Act.put,List.setIfInBounds_toArray,List.set_cons_zero,List.set_cons_succ]
     refine take2 rfl (i:=13) (v:=.pointer (some ⟨p,6,none⟩)) (d:=63) rfl rfl (by kernel_rfl) (by kernel_rfl) (by kernel_rfl) (fun _ _ _ h=>h) (Or.inl ⟨by rfl,?_⟩) hHeld ?_
     ·(intro W hW;(try dsimp only at hW);go_simp)
     try simp only [Act.put,List.setIfInBounds_toArray,List.set_cons_zero,List.set_cons_succ]
     refine wpAnyH_ready (rs:=[14]) (by kernel_rfl) (by simp) ?_
     refine cons2 rfl rfl (fun K9 hK=>?_)
     go_simp
     refine hK.out _ _ trivial (fun hX=>?_)
     clear hK K9 hHeld hX
     try simp only [Act.put,List.setIfInBounds_toArray,List.set_cons_zero,List.set_cons_succ]
     refine wpAnyH_done (by kernel_rfl) ?_ _
     go_wp2
     go_meet
     exact ⟨rfl,rfl,rfl⟩
   case rest =>
    obtain ⟨rfl,rfl,ew⟩:=hcut
    have ew:=ew.symm
    rw [ew] at C8 G8 BX8
    clear ew C7 G7 BX7
    obtain ⟨w8,e8⟩:∃ x,x=wc:=⟨_,rfl⟩
    subst e8
    have CX:=hid (((C8.out.next (show Below w8.heap.size w8 w8.drew from (Below.refl _ _).drew)).setk (m':=ls.length) (fun g s=>HS.out g s.1) (show Sl w8.drew (some ⟨b2,o9,none⟩) ls.length kc4 (thr ls.length) from by
     have q:=((C8.out.next (show Below w8.heap.size w8 w8.drew from (Below.refl _ _).drew)).rk).take (k:=ls.length) (by have:=LTL.out;omega)
     rw [LTL.out,thr_take] at q
     exact q) (fun x e=>(C8.out.next (show Below w8.heap.size w8 w8.drew from (Below.refl _ _).drew)).nk x e)).cq rfl)
    have GX:=hid ((G8.out.below (show Below w8.heap.size w8 w8.drew from (Below.refl _ _).drew)).set (i:=7) (.slice (some ⟨b2,o9,none⟩) ls.length kc4))
    have BXX:=hid ((BX8.out.next (show Below w8.heap.size w8 w8.drew from (Below.refl _ _).drew)).put (q:=p) (i:=7) (by have:=PQ.out;omega) (.slice (some ⟨b2,o9,none⟩) ls.length kc4))
    go_upto_region 8 with fail
    go_cut [5,6] from 64 to 77 (fun s5 s6 wx=>s5=.int .i64 kx.1∧s6=.int .i64 ky.1∧Hid (wx=w8.drew.setCell ⟨p,7,none⟩ (.slice (some ⟨b2,o9,none⟩) ls.length kc4)))
    case first =>
     have c7:w8.drew.cell? ⟨p,7,none⟩=some (.slice (some ⟨b2,o9,none⟩) (ls.length+1) kc4):=by have:=(C8.out.ck.next (show Below w8.heap.size w8 w8.drew from (Below.refl _ _).drew)).c7;rwa [LTL.out] at this
     have z7:=(C8.out.ck.next (show Below w8.heap.size w8 w8.drew from (Below.refl _ _).drew)).fz 7
     clear CX GX BXX
     refine wp_region_held_drew (S:=fun W=>True) (by kernel_rfl) trivial (fun hHeld=>?_)
     refine take2 rfl (i:=0) (v:=.pointer (some ⟨p,0,none⟩)) (d:=64) rfl rfl (by kernel_rfl) (by kernel_rfl) (by kernel_rfl) (fun _ _ _ h=>h) (Or.inl ⟨by rfl,?_⟩) hHeld ?_
     ·(intro W hW;(try dsimp only at hW);go_simp)
     try simp only [Act.put,List.setIfInBounds_toArray,List.set_cons_zero,List.set_cons_succ]
     refine take2 rfl (i:=1) (v:=.pointer (some ⟨p,0,none⟩)) (d:=65) rfl rfl (by kernel_rfl) (by kernel_rfl) (by kernel_rfl) (fun _ _ _ h=>h) (Or.inl ⟨by rfl,?_⟩) hHeld ?_
     ·(intro W hW;(try dsimp only at hW);go_simp)
     try simp only [Act.put,List.setIfInBounds_toArray,List.set_cons_zero,List.set_cons_succ]
     refine take2 rfl (i:=2) (v:=.pointer (some ⟨p,0,none⟩)) (d:=66) rfl rfl (by kernel_rfl) (by kernel_rfl) (by kernel_rfl) (fun _ _ _ h=>h) (Or.inl ⟨by rfl,?_⟩) hHeld ?_
     ·(intro W hW;(try dsimp only at hW);go_simp)
     try simp only [Act.put,List.setIfInBounds_toArray,List.set_cons_zero,List.set_cons_succ]
     refine take2 rfl (i:=3) (v:=.pointer (some ⟨p,7,none⟩)) (d:=67) rfl rfl (by kernel_rfl) (by kernel_rfl) (by kernel_rfl) (fun _ _ _ h=>h) (Or.inl ⟨by rfl,?_⟩) hHeld ?_
     ·(intro W hW;(try dsimp only at hW);go_simp)
     try simp only [Act.put,List.setIfInBounds_toArray,List.set_cons_zero,List.set_cons_succ]
     refine take2 rfl (i:=5) (v:=.pointer (some ⟨p,0,none⟩)) (d:=69) rfl rfl (by kernel_rfl) (by kernel_rfl) (by kernel_rfl) (fun _ _ _ h=>h) (Or.inl ⟨by rfl,?_⟩) hHeld ?_
     ·(intro W hW;(try dsimp only at hW);go_simp)
     try simp only [Act.put,List.setIfInBounds_toArray,List.set_cons_zero,List.set_cons_succ]
     refine take2 rfl (i:=6) (v:=.pointer (some ⟨p,0,none⟩)) (d:=70) rfl rfl (by kernel_rfl) (by kernel_rfl) (by kernel_rfl) (fun _ _ _ h=>h) (Or.inl ⟨by rfl,?_⟩) hHeld ?_
     ·(intro W hW;(try dsimp only at hW);go_simp)
     try simp only [Act.put,List.setIfInBounds_toArray,List.set_cons_zero,List.set_cons_succ]
     refine take2 rfl (i:=7) (v:=.pointer (some ⟨p,7,none⟩)) (d:=71) rfl rfl (by kernel_rfl) (by kernel_rfl) (by kernel_rfl) (fun _ _ _ h=>h) (Or.inl ⟨by rfl,?_⟩) hHeld ?_
     ·(intro W hW;(try dsimp only at hW);go_simp)
     try simp only [Act.put,List.setIfInBounds_toArray,List.set_cons_zero,List.set_cons_succ]
     refine wpAnyH_ready (rs:=[4,8]) (by kernel_rfl) (by simp) ?_
     refine cons22 rfl rfl rfl (fun K9 hK=>?_) (fun K9 hK=>?_)
     ·go_simp
      (try go_wp2_with fail)
      refine hK.out _ _ trivial (fun hX=>?_)
      clear hK K9 hHeld
      have hHeld:=hX
      clear hX
      try simp only [Act.put,List.setIfInBounds_toArray,List.set_cons_zero,List.set_cons_succ]
      refine wpAnyH_ready (rs:=[8]) (by kernel_rfl) (by simp) ?_
      refine cons2 rfl rfl (fun K9 hK=>?_)
      go_simp
      (try go_wp2_with fail)
      refine hK.out _ _ trivial (fun hX=>?_)
      clear hK K9 hHeld
      have hHeld:=hX
      clear hX
      try simp only [Act.put,List.setIfInBounds_toArray,List.set_cons_zero,List.set_cons_succ]
      refine take2 rfl (i:=9) (v:=.int .i64 ((ls.length:Int)+1)) (d:=73) rfl rfl (by kernel_rfl) (by kernel_rfl) (by kernel_rfl) (fun _ _ _ h=>h) (Or.inl ⟨by rfl,?_⟩) hHeld ?_
      ·(intro W hW;(try dsimp only at hW);go_simp)
      try simp only [Act.put,List.setIfInBounds_toArray,List.set_cons_zero,List.set_cons_succ]
      refine take2 rfl (i:=10) (v:=.int .i64 (ls.length:Nat)) (d:=74) rfl rfl (by kernel_rfl) (by kernel_rfl) (by kernel_rfl) (fun _ _ _ h=>h) (Or.inl ⟨by rfl,?_⟩) hHeld ?_
      ·(intro W hW;(try dsimp only at hW);go_simp)
      try simp only [Act.put,List.setIfInBounds_toArray,List.set_cons_zero,List.set_cons_succ]
      refine take2 rfl (i:=11) (v:=.slice (some ⟨b2,o9,none⟩) ls.length kc4) (d:=75) rfl rfl (by kernel_rfl) (by kernel_rfl) (by kernel_rfl) (fun _ _ _ h=>h) (Or.inl ⟨by rfl,?_⟩) hHeld ?_
      ·(intro W hW;(try dsimp only at hW);have c1:=U7.out W;go_simp)
      try simp only [Act.put,List.setIfInBounds_toArray,List.set_cons_zero,List.set_cons_succ]
      refine take2 rfl (i:=12) (v:=.pointer (some ⟨p,0,none⟩)) (d:=76) rfl rfl (by kernel_rfl) (by kernel_rfl) (by kernel_rfl) (fun _ _ _ h=>h) (Or.inl ⟨by rfl,?_⟩) hHeld ?_
      ·(intro W hW;(try dsimp only at hW);go_simp)
      try simp only [Act.put,List.setIfInBounds_toArray,List.set_cons_zero,List.set_cons_succ]
      refine take2 rfl (i:=13) (v:=.pointer (some ⟨p,7,none⟩)) (d:=77) rfl rfl (by kernel_rfl) (by kernel_rfl) (by kernel_rfl) (fun _ _ _ h=>h) (Or.inl ⟨by rfl,?_⟩) hHeld ?_
      ·(intro W hW;(try dsimp only at hW);go_simp)
      try simp only [Act.put,List.setIfInBounds_toArray,List.set_cons_zero,List.set_cons_succ]
      refine wpAnyH_ready (rs:=[14]) (by kernel_rfl) (by simp) ?_
      refine cons2 rfl rfl (fun K9 hK=>?_)
      go_simp
      refine hK.out _ _ trivial (fun hX=>?_)
      clear hK K9 hHeld hX
      try simp only [Act.put,List.setIfInBounds_toArray,List.set_cons_zero,List.set_cons_succ]
      refine wpAnyH_done (by kernel_rfl) ?_ _
      go_wp2
      go_meet
      exact ⟨rfl,rfl,rfl⟩
     ·go_simp
      (try go_wp2_with fail)
      refine hK.out _ _ trivial (fun hX=>?_)
      clear hK K9 hHeld
      have hHeld:=hX
      clear hX
      try simp only [Act.put,List.setIfInBounds_toArray,List.set_cons_zero,List.set_cons_succ]
      refine take2 rfl (i:=9) (v:=.int .i64 ((ls.length:Int)+1)) (d:=73) rfl rfl (by kernel_rfl) (by kernel_rfl) (by kernel_rfl) (fun _ _ _ h=>h) (Or.inl ⟨by rfl,?_⟩) hHeld ?_
      ·(intro W hW;(try dsimp only at hW);go_simp)
      try simp only [Act.put,List.setIfInBounds_toArray,List.set_cons_zero,List.set_cons_succ]
      refine take2 rfl (i:=10) (v:=.int .i64 (ls.length:Nat)) (d:=74) rfl rfl (by kernel_rfl) (by kernel_rfl) (by kernel_rfl) (fun _ _ _ h=>h) (Or.inl ⟨by rfl,?_⟩) hHeld ?_
      ·(intro W hW;(try dsimp only at hW);go_simp)
      try simp only [Act.put,List.setIfInBounds_toArray,List.set_cons_zero,List.set_cons_succ]
      refine wpAnyH_ready (rs:=[4]) (by kernel_rfl) (by simp) ?_
      refine cons2 rfl rfl (fun K9 hK=>?_)
      go_simp
      (try go_wp2_with fail)
      refine hK.out _ _ trivial (fun hX=>?_)
      clear hK K9 hHeld
      have hHeld:=hX
      clear hX
      try simp only [Act.put,List.setIfInBounds_toArray,List.set_cons_zero,List.set_cons_succ]
      refine take2 rfl (i:=11) (v:=.slice (some ⟨b2,o9,none⟩) ls.length kc4) (d:=75) rfl rfl (by kernel_rfl) (by kernel_rfl) (by kernel_rfl) (fun _ _ _ h=>h) (Or.inl ⟨by rfl,?_⟩) hHeld ?_
      ·(intro W hW;(try dsimp only at hW);have c1:=U7.out W;go_simp)
      try simp only [Act.put,List.setIfInBounds_toArray,List.set_cons_zero,List.set_cons_succ]
      refine take2 rfl (i:=12) (v:=.pointer (some ⟨p,0,none⟩)) (d:=76) rfl rfl (by kernel_rfl) (by kernel_rfl) (by kernel_rfl) (fun _ _ _ h=>h) (Or.inl ⟨by rfl,?_⟩) hHeld ?_
      ·(intro W hW;(try dsimp only at hW);go_simp)
      try simp only [Act.put,List.setIfInBounds_toArray,List.set_cons_zero,List.set_cons_succ]
      refine take2 rfl (i:=13) (v:=.pointer (some ⟨p,7,none⟩)) (d:=77) rfl rfl (by kernel_rfl) (by kernel_rfl) (by kernel_rfl) (fun _ _ _ h=>h) (Or.inl ⟨by rfl,?_⟩) hHeld ?_
      ·(intro W hW;(try dsimp only at hW);go_simp)
      try simp only [Act.put,List.setIfInBounds_toArray,List.set_cons_zero,List.set_cons_succ]
      refine wpAnyH_ready (rs:=[14]) (by kernel_rfl) (by simp) ?_
      refine cons2 rfl rfl (fun K9 hK=>?_)
      go_simp
      refine hK.out _ _ trivial (fun hX=>?_)
      clear hK K9 hHeld hX
      try simp only [Act.put,List.setIfInBounds_toArray,List.set_cons_zero,List.set_cons_succ]
      refine wpAnyH_done (by kernel_rfl) ?_ _
      go_wp2
      go_meet
      exact ⟨rfl,rfl,rfl⟩
    case rest =>
     obtain ⟨rfl,rfl,ew⟩:=hcut
     have ew:=ew.symm
     rw [ew] at CX GX BXX
     clear ew C8 G8 BX8 U6 U7 hw1 hw2
     obtain ⟨w9,e9⟩:∃ x,x=wc:=⟨_,rfl⟩
     subst e9
     by_cases qy:ky.1=0
     ·rw [show fO ky=some ky.2 from if_pos qy] at CX
      have FF:=hid (show (0,ky.2)=R from by rw [← RH.out,if_pos qy])
      have zk:(0:Int)≤(ky.2:Int):=by omega
      have c8:w9.cell? ⟨p,8,none⟩=some (.int .i64 (ky.2:Nat)):=CX.out.ck.c8
      clear qy
      go_wp2_with fail
      go_returns
      exact ⟨by rw [← FF.out];rfl,by rw [← FF.out];exact ofE (CX.out.sub (fun g s _=>s.1)) FA.out FB.out,GX.out⟩
     ·rw [show fO ky=none from if_neg qy] at CX
      rw [if_neg qy] at RH
      have YZ:=hid qy
      have c8:w9.cell? ⟨p,8,none⟩=some (.int .i64 (-1)):=CX.out.ck.c8
      clear qy
      go_upto_region 11 with fail
      clear c8
      go_cut [5,6,92] from 83 to 92 (fun s5 s6 s9 wx=>s5=.int .i64 kx.1∧s6=.int .i64 ky.1∧s9=.bool (!((kx.1==6) && (ky.1==3 || ky.1==2)))∧Hid (w9=wx))
      case first =>
       by_cases q1:kx.1=6
       ·have z1:(kx.1 != 6)=false:=by simpa using q1
        by_cases q2:ky.1=2
        ·have z2:(ky.1 != 2)=false:=by simpa using q2
         have FF:=hid (show Value.bool false=.bool (!((kx.1==6) && (ky.1==3 || ky.1==2))) from by rw [q1,q2];rfl)
         clear q1 q2
         go_wp2
         go_meet
         exact ⟨rfl,rfl,FF.out,rfl⟩
        ·have z2:(ky.1 != 2)=true:=by simpa using q2
         by_cases q3:ky.1=3
         ·have z3:(ky.1 != 3)=false:=by simpa using q3
          have FF:=hid (show Value.bool false=.bool (!((kx.1==6) && (ky.1==3 || ky.1==2))) from by rw [q1,q3];rfl)
          clear q1 q2 q3
          go_wp2
          go_meet
          exact ⟨rfl,rfl,FF.out,rfl⟩
         ·have z3:(ky.1 != 3)=true:=by simpa using q3
          have FF:=hid (show Value.bool true=.bool (!((kx.1==6) && (ky.1==3 || ky.1==2))) from by rw [show (ky.1==3)=false from beqI _ _ q3,show (ky.1==2)=false from beqI _ _ q2];simp)
          clear q1 q2 q3
          go_wp2
          go_meet
          exact ⟨rfl,rfl,FF.out,rfl⟩
       ·have z1:(kx.1 != 6)=true:=by simpa using q1
        have FF:=hid (show Value.bool true=.bool (!((kx.1==6) && (ky.1==3 || ky.1==2))) from by rw [show (kx.1==6)=false from beqI _ _ q1];rfl)
        clear q1
        go_wp2
        go_meet
        exact ⟨rfl,rfl,FF.out,rfl⟩
      case rest =>
       obtain ⟨rfl,rfl,rfl,ew⟩:=hcut
       subst ew
       have SK:=hid (show sumK t.kids [] ls.reverse nm kx.1 ky.1=onl (!(decide (0<decN t.kids nm) || decide (0<cntK ls.reverse nm)) && ((kx.1==6) && (ky.1==3 || ky.1==2))) ky.1 from by unfold sumK;rw [taken_is,Bool.and_assoc])
       rw [SK.out] at RH
       clear SK
       generalize ((kx.1==6) && (ky.1==3 || ky.1==2))=fit at *
       obtain ⟨x0,x1,x2,x3,x4,x5,xz⟩:=BXX.out
       cases fit with
       | false =>
        have FF:=hid (show ((0:Int),pl)=R from by rw [← RH.out,Bool.and_false];rfl)
        have FC:=hid (fail11_any CX.out.ck (.nd ⟨#[115,117,109]⟩ nm kd n pl [x,y]) (.slice (some ⟨g,0,none⟩) 2 c) rfl)
        simp only [tr_op9,tr_name9,tr_kind9,tr_n9,tr_pl9,Option.getD_none] at FC
        go_wp2_with (go_at_call 48;(with_reducible refine Calls.mono FC.out ?_);rintro e w9 ⟨rfl,c9,g9⟩;have C9:=hid c9;have G9:=hid g9;clear c9 g9)
        go_returns
        exact ⟨by rw [← FF.out];rfl,by rw [← FF.out];exact ofE ((CX.out.bad (fun g s=>HS.out g s.1) C9.out G9.out).sub (fun g s _=>s.1)) FA.out FB.out,GX.out.trans G9.out⟩
       | true =>
        rw [Bool.and_true] at RH
        obtain ⟨ta,tc,rfl⟩:=CX.out.nd.lenY
        have TB:(t.kids.length:Int)≤10000:=by have:=HN.out;omega
        have c6:=CX.out.ck.c6
        go_upto_region 14 with fail
        clear c6 x0 x1 x2 x3 x4 x5 xz
        go_loopg [7] (ls.length) (fun g iv wq=>∃ i:Nat,i≤ls.length∧g=ls.length - i∧iv=.int .i64 (i:Nat)∧Hid (Below w9.heap.size w9 wq)∧Hid (∀ (j:Nat) (x:ByteArray),j<i→ls[j]?=some x→eqB x nm=false))
        case atStart=>exact ⟨0,Nat.zero_le _,rfl,rfl,Below.refl _ _,fun j x hj _=>absurd hj (Nat.not_lt_zero _)⟩
        case round =>
         obtain ⟨i,hi,rfl,rfl,B2,NN⟩:=hrel
         have C2:=hid (CX.out.next B2.out)
         have G2:=hid (GX.out.below B2.out)
         have BX2:=hid (BXX.out.next B2.out)
         have c6:=C2.out.ck.c6
         obtain ⟨x0,x1,x2,x3,x4,x5,xz⟩:=BX2.out
         by_cases qi:i<ls.length
         ·have qi':(i:Int)<(ls.length:Int):=by omega
          obtain ⟨u,hu⟩:∃ u,ls[i]?=some u:=⟨_,List.getElem?_eq_getElem qi⟩
          have cl:wr.cell? ⟨b,o8+i,none⟩=some (.string u):=C2.out.rl.cells i _ (by simp [sv,hu])
          cases yu:eqB u nm with
          | true =>
           have z:(u.toList==nm.toList)=true:=(eqB_is _ _).trans yu
           have FF:=hid (show ((0:Int),pl)=R from by
            rw [← RH.out,show decide (0<cntK ls.reverse nm)=true from decide_eq_true (cnt_some hu yu),Bool.or_true]
            rfl)
           clear yu hu
           go_upto_region 16 with fail
           go_quiet (fail)
           have BQ:=hid (drewN_below wr nq)
           have C4:=hid (C2.out.next BQ.out)
           have G4:=hid (G2.out.below BQ.out)
           have FC:=hid (fail11_any C4.out.ck (.nd ⟨#[115,117,109]⟩ nm kd n pl [x,y]) (.slice (some ⟨g,0,none⟩) 2 c) rfl)
           simp only [tr_op9,tr_name9,tr_kind9,tr_n9,tr_pl9,Option.getD_none] at FC
           go_wp2_with (go_at_call 48;(with_reducible refine Calls.mono FC.out ?_);rintro e w9 ⟨rfl,c9,g9⟩;have C9:=hid c9;have G9:=hid g9;clear c9 g9)
           go_returns
           exact ⟨by rw [← FF.out];rfl,by rw [← FF.out];exact ofE ((C4.out.bad (fun g s=>HS.out g s.1) C9.out G9.out).sub (fun g s _=>s.1)) FA.out FB.out,G4.out.trans G9.out⟩
          | false =>
           have z:(u.toList==nm.toList)=false:=(eqB_is _ _).trans yu
           have N2:=hid (show ∀ (j:Nat) (x:ByteArray),j<i+1→ls[j]?=some x→eqB x nm=false from fun j v hj hv=>by
            rcases Nat.eq_or_lt_of_le (Nat.le_of_lt_succ hj) with e | e
            ·subst e
             rw [hu] at hv
             injection hv with hv
             rw [← hv]
             exact yu
            ·exact NN.out j v e hv)
           clear yu hu NN
           go_upto_region 16 with fail
           go_quiet (fail)
           have BQ:=hid (drewN_below wr nq)
           go_wp2_with fail
           go_roundg (ls.length - (i+1))
           case measure=>omega
           case rel=>exact ⟨i+1,by omega,rfl,by rw [Int.natCast_add];rfl,nextB B2.out BQ.out,N2.out⟩
         ·have qi':¬ (i:Int)<(ls.length:Int):=by omega
          have CN:=hid (show cntK ls.reverse nm=0 from cnt_none fun j x _ hx=>NN.out j x (by have:=lt_of_some hx;omega) hx)
          have c5:=C2.out.ck.c5
          clear NN
          go_upto_region 19 with fail
          clear c5 c6 x0 x1 x2 x3 x4 x5 xz
          obtain ⟨wq,ewq⟩:∃ x,x=wr:=⟨_,rfl⟩
          subst ewq
          go_loopg [8] (t.kids.length) (fun g iv wp=>∃ i:Nat,i≤t.kids.length∧g=t.kids.length - i∧iv=.int .i64 (i:Nat)∧Hid (Below w9.heap.size w9 wp)∧Hid (∀ (j:Nat) (k:Tr),j<i→t.kids[j]?=some k→eqB k.name nm=false))
          case atStart=>exact ⟨0,Nat.zero_le _,rfl,rfl,B2.out,fun j x hj _=>absurd hj (Nat.not_lt_zero _)⟩
          case round =>
           obtain ⟨i8,hi8,rfl,rfl,B4,NN⟩:=hrel
           have C4:=hid (CX.out.next B4.out)
           have G4:=hid (GX.out.below B4.out)
           have BX4:=hid (BXX.out.next B4.out)
           have c5:=C4.out.ck.c5
           obtain ⟨x0,x1,x2,x3,x4,x5,xz⟩:=BX4.out
           by_cases q8:i8<t.kids.length
           ·have q8':(i8:Int)<(t.kids.length:Int):=by omega
            obtain ⟨k,hk⟩:∃ k,t.kids[i8]?=some k:=⟨_,List.getElem?_eq_getElem q8⟩
            obtain ⟨g9,c9,s3,ea,nc,nk⟩:=C4.out.nd.atY i8 k hk
            injection ea with ea _ ec
            subst ea ec
            have n1:=nc.e1
            clear nc nk
            cases yn:eqB k.name nm with
            | true =>
             have z:(k.name.toList==nm.toList)=true:=(eqB_is _ _).trans yn
             have FF:=hid (show ((0:Int),pl)=R from by
              rw [← RH.out,show decide (0<decN t.kids nm)=true from decide_eq_true (dec_some hk yn),Bool.true_or]
              rfl)
             clear yn hk
             go_upto_region 21 with fail
             go_quiet (fail)
             have BQ:=hid (drewN_below wr nq)
             have C5:=hid (C4.out.next BQ.out)
             have G5:=hid (G4.out.below BQ.out)
             have FC:=hid (fail11_any C5.out.ck (.nd ⟨#[115,117,109]⟩ nm kd n pl [x,y]) (.slice (some ⟨g,0,none⟩) 2 c) rfl)
             simp only [tr_op9,tr_name9,tr_kind9,tr_n9,tr_pl9,Option.getD_none] at FC
             go_wp2_with (go_at_call 48;(with_reducible refine Calls.mono FC.out ?_);rintro e w9 ⟨rfl,c9,g9⟩;have C9:=hid c9;have G9:=hid g9;clear c9 g9)
             go_returns
             exact ⟨by rw [← FF.out];rfl,by rw [← FF.out];exact ofE ((C5.out.bad (fun g s=>HS.out g s.1) C9.out G9.out).sub (fun g s _=>s.1)) FA.out FB.out,G5.out.trans G9.out⟩
            | false =>
             have z:(k.name.toList==nm.toList)=false:=(eqB_is _ _).trans yn
             have N2:=hid (show ∀ (j:Nat) (x:Tr),j<i8+1→t.kids[j]?=some x→eqB x.name nm=false from fun j v hj hv=>by
              rcases Nat.eq_or_lt_of_le (Nat.le_of_lt_succ hj) with e | e
              ·subst e
               rw [hk] at hv
               injection hv with hv
               rw [← hv]
               exact yn
              ·exact NN.out j v e hv)
             clear yn hk NN
             go_upto_region 21 with fail
             go_quiet (fail)
             have BQ:=hid (drewN_below wr nq)
             go_wp2_with fail
             go_roundg (t.kids.length - (i8+1))
             case measure=>omega
             case rel=>exact ⟨i8+1,by omega,rfl,by rw [Int.natCast_add];rfl,nextB B4.out BQ.out,N2.out⟩
           ·have q8':¬ (i8:Int)<(t.kids.length:Int):=by omega
            have DN:=hid (show decN t.kids nm=0 from dec_none fun j x hx=>NN.out j x (by have:=lt_of_some hx;omega) hx)
            have FF:=hid (show (ky.1,0)=R from by
             rw [← RH.out,DN.out,CN.out]
             show (ky.1,0)=(if ky.1=0 then ((0:Int),pl) else (ky.1,0))
             rw [if_neg YZ.out])
            have FN:=hid (show fO (ky.1,0)=none from if_neg YZ.out)
            go_wp2_with fail
            go_returns
            exact ⟨by rw [← FF.out];rfl,by rw [← FF.out,FN.out];exact ofE (C4.out.sub (fun g s _=>s.1)) FA.out FB.out,G4.out⟩
end Go.Proofs.YtonmdlhlkacppaaDoor
