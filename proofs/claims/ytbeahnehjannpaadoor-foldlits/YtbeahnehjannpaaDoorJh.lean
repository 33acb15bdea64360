/- Parts of the proof. -/
import Derived.Test.YtbeahnehjannpaaDoorJg
import Derived.Test.YtbeahnehjannpaaDoorKK
namespace Go.Proofs.YtbeahnehjannpaaDoor
open Go.RowKit
set_option linter.unusedVariables false
set_option linter.unusedSimpArgs false
theorem fndU_nn (l:List (ByteArray × Int × Int × Int)) (h:∀ x ∈ l,0≤x.2.2.2) (op:ByteArray) (a b:Int):0≤fndU l op a b:=by
 induction l with
 | nil=>exact Int.le_refl _
 | cons x l ih =>
  unfold fndU
  split
  ·exact h x (by simp)
  ·exact ih fun y hy=>h y (by simp [hy])
theorem outF_nn (op:ByteArray) (a b:Nat):0≤outF op (a:Nat) (b:Nat):=by
 have U:∀ o x y,0≤fndU unitL o x y:=fndU_nn unitL (by decide)
 unfold outF
 repeat' split
 all_goals first | exact U _ _ _ | omega
theorem opF_nn (op:ByteArray) (a b:Nat) (n m:Int):0≤(opF op (a:Nat) n (b:Nat) m).1:=by
 unfold opF
 repeat' split
 all_goals first | exact outF_nn op a b | exact Int.le_refl _
set_option maxRecDepth 100000 in
set_option maxHeartbeats 8000000 in
theorem reckoned_any (e a b:Tr) (se sa sb:Value) (S0:Nat→Prop) (w:World) (hS:∀ g,S0 g→g<w.heap.size) (hd:Nd w S0 se e.kids) (ho:e.op ∈ ops14) (hn:BdN a.n) (hm:BdN b.n) (hT:TabU w) :
  Calls Tryd.prog 20 #[.agg #[.string e.op,.string e.name,.int .i64 (e.kind:Nat),.int .i64 e.n,.int .i64 (e.pl:Nat),se],.agg #[.string a.op,.string a.name,.int .i64 (a.kind:Nat),.int .i64 a.n,.int .i64 (a.pl:Nat),sa],.agg #[.string b.op,.string b.name,.int .i64 (b.kind:Nat),.int .i64 b.n,.int .i64 (b.pl:Nat),sb]] w fun e' w'=>∃ v,e'=.returned v∧Nv w' S0 v (reckE e a b)∧Below w.heap.size w w':=by
 have sz1:(w.alloc (.cells #[.string e.op,.string e.name,.int .i64 (e.kind:Nat),.int .i64 e.n,.int .i64 (e.pl:Nat),se] 28)).heap.size=w.heap.size+1:=by simp
 have sz2:((w.alloc (.cells #[.string e.op,.string e.name,.int .i64 (e.kind:Nat),.int .i64 e.n,.int .i64 (e.pl:Nat),se] 28)).alloc (.cells #[.string a.op,.string a.name,.int .i64 (a.kind:Nat),.int .i64 a.n,.int .i64 (a.pl:Nat),sa] 28)).heap.size=w.heap.size+2:=by simp
 have sz3:(((w.alloc (.cells #[.string e.op,.string e.name,.int .i64 (e.kind:Nat),.int .i64 e.n,.int .i64 (e.pl:Nat),se] 28)).alloc (.cells #[.string a.op,.string a.name,.int .i64 (a.kind:Nat),.int .i64 a.n,.int .i64 (a.pl:Nat),sa] 28)).alloc (.cells #[.string b.op,.string b.name,.int .i64 (b.kind:Nat),.int .i64 b.n,.int .i64 (b.pl:Nat),sb] 28)).heap.size=w.heap.size+3:=by simp
 have A1:=hid (show Below w.heap.size w ((((w.alloc (.cells #[.string e.op,.string e.name,.int .i64 (e.kind:Nat),.int .i64 e.n,.int .i64 (e.pl:Nat),se] 28)).alloc (.cells #[.string a.op,.string a.name,.int .i64 (a.kind:Nat),.int .i64 a.n,.int .i64 (a.pl:Nat),sa] 28)).alloc (.cells #[.string b.op,.string b.name,.int .i64 (b.kind:Nat),.int .i64 b.n,.int .i64 (b.pl:Nat),sb] 28)).alloc (.cells #[.string ⟨#[]⟩,.string ⟨#[]⟩,.int .i64 0,.int .i64 0,.int .i64 0,.slice none 0 0] 28)) from ((((Below.refl _ _).alloc (Nat.le_refl _) _).alloc (by simp) _).alloc (by simp;omega) _).alloc (by simp;omega) _)
 have X3:=hid (show B6 ((((w.alloc (.cells #[.string e.op,.string e.name,.int .i64 (e.kind:Nat),.int .i64 e.n,.int .i64 (e.pl:Nat),se] 28)).alloc (.cells #[.string a.op,.string a.name,.int .i64 (a.kind:Nat),.int .i64 a.n,.int .i64 (a.pl:Nat),sa] 28)).alloc (.cells #[.string b.op,.string b.name,.int .i64 (b.kind:Nat),.int .i64 b.n,.int .i64 (b.pl:Nat),sb] 28)).alloc (.cells #[.string ⟨#[]⟩,.string ⟨#[]⟩,.int .i64 0,.int .i64 0,.int .i64 0,.slice none 0 0] 28)) w.heap.size (.string e.op) (.string e.name) (.int .i64 (e.kind:Nat)) (.int .i64 e.n) (.int .i64 (e.pl:Nat)) (se) from by
  have h:=(((B6.new w 28 (.string e.op) (.string e.name) (.int .i64 (e.kind:Nat)) (.int .i64 e.n) (.int .i64 (e.pl:Nat)) (se)).next ((Below.refl _ _).alloc (Nat.le_refl _) (.cells #[.string a.op,.string a.name,.int .i64 (a.kind:Nat),.int .i64 a.n,.int .i64 (a.pl:Nat),sa] 28))).next ((Below.refl _ _).alloc (Nat.le_refl _) (.cells #[.string b.op,.string b.name,.int .i64 (b.kind:Nat),.int .i64 b.n,.int .i64 (b.pl:Nat),sb] 28))).next ((Below.refl _ _).alloc (Nat.le_refl _) (.cells #[.string ⟨#[]⟩,.string ⟨#[]⟩,.int .i64 0,.int .i64 0,.int .i64 0,.slice none 0 0] 28))
  exact h)
 have X4:=hid (show B6 ((((w.alloc (.cells #[.string e.op,.string e.name,.int .i64 (e.kind:Nat),.int .i64 e.n,.int .i64 (e.pl:Nat),se] 28)).alloc (.cells #[.string a.op,.string a.name,.int .i64 (a.kind:Nat),.int .i64 a.n,.int .i64 (a.pl:Nat),sa] 28)).alloc (.cells #[.string b.op,.string b.name,.int .i64 (b.kind:Nat),.int .i64 b.n,.int .i64 (b.pl:Nat),sb] 28)).alloc (.cells #[.string ⟨#[]⟩,.string ⟨#[]⟩,.int .i64 0,.int .i64 0,.int .i64 0,.slice none 0 0] 28)) (w.heap.size+1) (.string a.op) (.string a.name) (.int .i64 (a.kind:Nat)) (.int .i64 a.n) (.int .i64 (a.pl:Nat)) (sa) from by
  have h:=((B6.new (w.alloc (.cells #[.string e.op,.string e.name,.int .i64 (e.kind:Nat),.int .i64 e.n,.int .i64 (e.pl:Nat),se] 28)) 28 (.string a.op) (.string a.name) (.int .i64 (a.kind:Nat)) (.int .i64 a.n) (.int .i64 (a.pl:Nat)) (sa)).next ((Below.refl _ _).alloc (Nat.le_refl _) (.cells #[.string b.op,.string b.name,.int .i64 (b.kind:Nat),.int .i64 b.n,.int .i64 (b.pl:Nat),sb] 28))).next ((Below.refl _ _).alloc (Nat.le_refl _) (.cells #[.string ⟨#[]⟩,.string ⟨#[]⟩,.int .i64 0,.int .i64 0,.int .i64 0,.slice none 0 0] 28))
  rw [sz1] at h
  exact h)
 have X5:=hid (show B6 ((((w.alloc (.cells #[.string e.op,.string e.name,.int .i64 (e.kind:Nat),.int .i64 e.n,.int .i64 (e.pl:Nat),se] 28)).alloc (.cells #[.string a.op,.string a.name,.int .i64 (a.kind:Nat),.int .i64 a.n,.int .i64 (a.pl:Nat),sa] 28)).alloc (.cells #[.string b.op,.string b.name,.int .i64 (b.kind:Nat),.int .i64 b.n,.int .i64 (b.pl:Nat),sb] 28)).alloc (.cells #[.string ⟨#[]⟩,.string ⟨#[]⟩,.int .i64 0,.int .i64 0,.int .i64 0,.slice none 0 0] 28)) (w.heap.size+2) (.string b.op) (.string b.name) (.int .i64 (b.kind:Nat)) (.int .i64 b.n) (.int .i64 (b.pl:Nat)) (sb) from by
  have h:=(B6.new ((w.alloc (.cells #[.string e.op,.string e.name,.int .i64 (e.kind:Nat),.int .i64 e.n,.int .i64 (e.pl:Nat),se] 28)).alloc (.cells #[.string a.op,.string a.name,.int .i64 (a.kind:Nat),.int .i64 a.n,.int .i64 (a.pl:Nat),sa] 28)) 28 (.string b.op) (.string b.name) (.int .i64 (b.kind:Nat)) (.int .i64 b.n) (.int .i64 (b.pl:Nat)) (sb)).next ((Below.refl _ _).alloc (Nat.le_refl _) (.cells #[.string ⟨#[]⟩,.string ⟨#[]⟩,.int .i64 0,.int .i64 0,.int .i64 0,.slice none 0 0] 28))
  rw [sz2] at h
  exact h)
 have X6:=hid (show B6 ((((w.alloc (.cells #[.string e.op,.string e.name,.int .i64 (e.kind:Nat),.int .i64 e.n,.int .i64 (e.pl:Nat),se] 28)).alloc (.cells #[.string a.op,.string a.name,.int .i64 (a.kind:Nat),.int .i64 a.n,.int .i64 (a.pl:Nat),sa] 28)).alloc (.cells #[.string b.op,.string b.name,.int .i64 (b.kind:Nat),.int .i64 b.n,.int .i64 (b.pl:Nat),sb] 28)).alloc (.cells #[.string ⟨#[]⟩,.string ⟨#[]⟩,.int .i64 0,.int .i64 0,.int .i64 0,.slice none 0 0] 28)) (w.heap.size+3) (.string ⟨#[]⟩) (.string ⟨#[]⟩) (.int .i64 0) (.int .i64 0) (.int .i64 0) (.slice none 0 0) from by
  have h:=B6.new (((w.alloc (.cells #[.string e.op,.string e.name,.int .i64 (e.kind:Nat),.int .i64 e.n,.int .i64 (e.pl:Nat),se] 28)).alloc (.cells #[.string a.op,.string a.name,.int .i64 (a.kind:Nat),.int .i64 a.n,.int .i64 (a.pl:Nat),sa] 28)).alloc (.cells #[.string b.op,.string b.name,.int .i64 (b.kind:Nat),.int .i64 b.n,.int .i64 (b.pl:Nat),sb] 28)) 28 (.string ⟨#[]⟩) (.string ⟨#[]⟩) (.int .i64 0) (.int .i64 0) (.int .i64 0) (.slice none 0 0)
  rw [sz3] at h
  exact h)
 clear sz1
 clear sz2
 clear sz3
 obtain ⟨K,N,R,hO⟩:∃ K N R,opF e.op (a.kind:Nat) a.n (b.kind:Nat) b.n=(K,N,R):=⟨_,_,_,rfl⟩
 have KOP:=hid (fun W hW=>op_any e.op ho (a.kind:Nat) a.n (b.kind:Nat) b.n (.slice none 0 0) (.slice none 0 0) W hW hn hm)
 rw [hO] at KOP
 have OE:=hid hO
 have HT:=hid (hT.next A1.out)
 have KP:=hid (outF_nn e.op a.kind b.kind)
 have HD:=hid hd
 obtain ⟨ea,em,ec,rfl⟩:=hd.slice
 have HP:=hid (show ∀ g,S0 g→g≠w.heap.size+3 from fun g s e=>by have:=hS g s;omega)
 clear hO ho hn hm hT hd hS
 go_enter Tryd.func20,Tryd.ntmps20
 go_upto_region 1 with fail
 generalize World.alloc (World.alloc (World.alloc (World.alloc w _) _) _) _=w1 at *
 have P3:=hid (show w.heap.size≤w.heap.size+3 by omega)
 have PL:=hid (X6.out.lt)
 have A0:=hid (show w.heap.size≤w1.heap.size from A1.out.size)
 generalize w.heap.size+3=p6 at *
 generalize w.heap.size+2=p5 at *
 generalize w.heap.size+1=p4 at *
 go_cut [7,8] from 9 to 18 (fun s7 s8 wx=>∃ r,s7=.pointer (some ⟨r,0,none⟩)∧s8=.int .i64 R∧Hid (B3v wx r (.int .i64 K) (.int .i64 N) (.slice none 0 0))∧Hid (Below w1.heap.size w1 wx))
 case first =>
  refine wp_region_held_drew (S:=fun W=>Below w1.heap.size w1 W) (by kernel_rfl) (Below.refl _ _).drew (fun hHeld=>?_)
  have BB:=hid (show Below w1.heap.size w1 w1.drew from (Below.refl _ _).drew)
  generalize w1.drew=v0 at *
  refine tkq 0 (.pointer (some ⟨w.heap.size,0,none⟩)) 10 rfl rfl rfl (by kernel_rfl) (fun _ _ _ h=>h) (by rfl) hHeld ?_ ?_
  ·(intro W hW;(try dsimp only at hW);go_simp)
  try simp only [Act.put,List.setIfInBounds_toArray,List.set_cons_zero,List.set_cons_succ]
  refine tkq 1 (.string e.op) 11 rfl rfl rfl (by kernel_rfl) (fun _ _ _ h=>h) (by rfl) hHeld ?_ ?_
  ·(intro W hW;(try dsimp only at hW);obtain ⟨c0,c1,c2,c3,c4,c5,_⟩:=X3.out.next hW;go_simp)
  try simp only [Act.put,List.setIfInBounds_toArray,List.set_cons_zero,List.set_cons_succ]
  refine tkq 2 (.agg #[.string a.op,.string a.name,.int .i64 (a.kind:Nat),.int .i64 a.n,.int .i64 (a.pl:Nat),sa]) 12 rfl rfl rfl (by kernel_rfl) (fun _ _ _ h=>h) (by rfl) hHeld ?_ ?_
  ·(intro W hW;(try dsimp only at hW);obtain ⟨c0,c1,c2,c3,c4,c5,_⟩:=X4.out.next hW;go_simp)
  try simp only [Act.put,List.setIfInBounds_toArray,List.set_cons_zero,List.set_cons_succ]
  refine tkq 4 (.agg #[.string b.op,.string b.name,.int .i64 (b.kind:Nat),.int .i64 b.n,.int .i64 (b.pl:Nat),sb]) 14 rfl rfl rfl (by kernel_rfl) (fun _ _ _ h=>h) (by rfl) hHeld ?_ ?_
  ·(intro W hW;(try dsimp only at hW);obtain ⟨c0,c1,c2,c3,c4,c5,_⟩:=X5.out.next hW;go_simp)
  try simp only [Act.put,List.setIfInBounds_toArray,List.set_cons_zero,List.set_cons_succ]
  refine wpAnyH_ready (rs:=[3,10]) (by kernel_rfl) (by simp) ?_
  refine cons22 rfl rfl rfl (fun K9 hK=>?_) (fun K9 hK=>?_)
  ·have KV:=hid (value_any a sa v0)
   go_simp
   refine Calls.mono KV.out ?_
   rintro e9 v1 ⟨rfl,b7⟩
   clear KV
   have BN:=hid (nextB BB.out b7)
   clear b7
   go_wp2_with fail
   refine hK.out _ _ BN.out (fun hX=>?_)
   clear hK K9 hHeld
   have hHeld:=hX
   clear hX
   try simp only [Act.put,List.setIfInBounds_toArray,List.set_cons_zero,List.set_cons_succ]
   clear BB
   have BB:=BN
   clear BN
   refine wpAnyH_ready (rs:=[5,10]) (by kernel_rfl) (by simp) ?_
   refine cons22 rfl rfl rfl (fun K9 hK=>?_) (fun K9 hK=>?_)
   ·have KV:=hid (value_any b sb v1)
    go_simp
    refine Calls.mono KV.out ?_
    rintro e9 v2 ⟨rfl,b7⟩
    clear KV
    have BN:=hid (nextB BB.out b7)
    clear b7
    go_wp2_with fail
    refine hK.out _ _ BN.out (fun hX=>?_)
    clear hK K9 hHeld
    have hHeld:=hX
    clear hX
    try simp only [Act.put,List.setIfInBounds_toArray,List.set_cons_zero,List.set_cons_succ]
    clear BB
    have BB:=BN
    clear BN
    refine wpAnyH_ready (rs:=[6,10]) (by kernel_rfl) (by simp) ?_
    refine cons22 rfl rfl rfl (fun K9 hK=>?_) (fun K9 hK=>?_)
    ·have KO:=hid (KOP.out v2 (HT.out.next BB.out))
     go_simp
     refine Calls.mono KO.out ?_
     rintro e9 v3 ⟨rfl,b7⟩
     clear KO
     have BN:=hid (nextB BB.out b7)
     clear b7
     go_wp2_with fail
     refine hK.out _ _ BN.out (fun hX=>?_)
     clear hK K9 hHeld
     have hHeld:=hX
     clear hX
     try simp only [Act.put,List.setIfInBounds_toArray,List.set_cons_zero,List.set_cons_succ]
     clear BB
     have BB:=BN
     clear BN
     refine tkq 7 (.tuple #[vl K N (.slice none 0 0),.int .i64 R]) 9 rfl rfl rfl (by kernel_rfl) (fun _ _ _ h=>h) (by rfl) hHeld ?_ ?_
     ·(intro W hW;(try dsimp only at hW);go_simp)
     try simp only [Act.put,List.setIfInBounds_toArray,List.set_cons_zero,List.set_cons_succ]
     refine tkq 8 (vl K N (.slice none 0 0)) 17 rfl rfl rfl (by kernel_rfl) (fun _ _ _ h=>h) (by rfl) hHeld ?_ ?_
     ·(intro W hW;(try dsimp only at hW);go_simp)
     try simp only [Act.put,List.setIfInBounds_toArray,List.set_cons_zero,List.set_cons_succ]
     refine tkq 9 (.int .i64 R) 18 rfl rfl rfl (by kernel_rfl) (fun _ _ _ h=>h) (by rfl) hHeld ?_ ?_
     ·(intro W hW;(try dsimp only at hW);go_simp)
     try simp only [Act.put,List.setIfInBounds_toArray,List.set_cons_zero,List.set_cons_succ]
     refine wpAnyH_ready (rs:=[10]) (by kernel_rfl) (by simp) ?_
     refine cons2 rfl rfl (fun K9 hK=>?_)
     have bA:=(show Below v3.heap.size v3 (v3.alloc (.cells #[.int .i64 0,.int .i64 0,.slice none 0 0] 62)) from (Below.refl _ _).alloc (Nat.le_refl _) _)
     have BN:=hid (nextB BB.out bA)
     have RX:=hid (B3v.new v3 62 (.int .i64 0) (.int .i64 0) (.slice none 0 0))
     have RL:=hid (show w1.heap.size≤v3.heap.size from BB.out.size)
     clear bA
     go_simp
     refine hK.out _ _ BN.out (fun hX=>?_)
     clear hK K9 hHeld
     have hHeld:=hX
     clear hX
     try simp only [Act.put,List.setIfInBounds_toArray,List.set_cons_zero,List.set_cons_succ]
     clear BB
     have BB:=BN
     clear BN
     generalize World.alloc v3 _=v4 at *
     generalize v3.heap.size=r7 at *
     obtain ⟨y0,y1,y2,yz⟩:=RX.out
     have S:=hid (RX.out.sets (.int .i64 K) (.int .i64 N) (.slice none 0 0))
     have BF:=hid (Below.put3v BB.out (q:=r7) RL.out (.int .i64 K) (.int .i64 N) (.slice none 0 0))
     refine wpAnyH_ready (rs:=[11]) (by kernel_rfl) (by simp) ?_
     refine cons2 rfl rfl (fun K9 hK=>?_)
     go_simp
     clear y0 y1 y2 yz
     generalize World.setCell _ ⟨r7,2,none⟩ _=wf at *
     refine hK.out _ _ (BF.out) (fun hX=>?_)
     clear hK K9 hHeld
     have hHeld:=hX
     clear hX
     try simp only [Act.put,List.setIfInBounds_toArray,List.set_cons_zero,List.set_cons_succ]
     refine tkq 12 (.int .i64 R) 8 rfl rfl rfl (by kernel_rfl) (fun _ _ _ h=>h) (by rfl) hHeld ?_ ?_
     ·(intro W hW;(try dsimp only at hW);go_simp)
     try simp only [Act.put,List.setIfInBounds_toArray,List.set_cons_zero,List.set_cons_succ]
     refine wpAnyH_done (by kernel_rfl) ?_ _
     go_wp2
     go_meet
     exact ⟨r7,rfl,rfl,S,BF⟩
    ·have bA:=(show Below v2.heap.size v2 (v2.alloc (.cells #[.int .i64 0,.int .i64 0,.slice none 0 0] 62)) from (Below.refl _ _).alloc (Nat.le_refl _) _)
     have BN:=hid (nextB BB.out bA)
     have RX:=hid (B3v.new v2 62 (.int .i64 0) (.int .i64 0) (.slice none 0 0))
     have RL:=hid (show w1.heap.size≤v2.heap.size from BB.out.size)
     clear bA
     go_simp
     refine hK.out _ _ BN.out (fun hX=>?_)
     clear hK K9 hHeld
     have hHeld:=hX
     clear hX
     try simp only [Act.put,List.setIfInBounds_toArray,List.set_cons_zero,List.set_cons_succ]
     clear BB
     have BB:=BN
     clear BN
     generalize World.alloc v2 _=v5 at *
     generalize v2.heap.size=r7 at *
     refine wpAnyH_ready (rs:=[6]) (by kernel_rfl) (by simp) ?_
     refine cons2 rfl rfl (fun K9 hK=>?_)
     have KO:=hid (KOP.out v5 (HT.out.next BB.out))
     go_simp
     refine Calls.mono KO.out ?_
     rintro e9 v6 ⟨rfl,b7⟩
     clear KO
     have BN:=hid (nextB BB.out b7)
     have RN:=hid (RX.out.next b7)
     clear b7
     go_wp2_with fail
     refine hK.out _ _ BN.out (fun hX=>?_)
     clear hK K9 hHeld
     have hHeld:=hX
     clear hX
     try simp only [Act.put,List.setIfInBounds_toArray,List.set_cons_zero,List.set_cons_succ]
     clear BB
     have BB:=BN
     clear BN
     clear RX
     have RX:=RN
     clear RN
     refine tkq 7 (.tuple #[vl K N (.slice none 0 0),.int .i64 R]) 9 rfl rfl rfl (by kernel_rfl) (fun _ _ _ h=>h) (by rfl) hHeld ?_ ?_
     ·(intro W hW;(try dsimp only at hW);go_simp)
     try simp only [Act.put,List.setIfInBounds_toArray,List.set_cons_zero,List.set_cons_succ]
     refine tkq 8 (vl K N (.slice none 0 0)) 17 rfl rfl rfl (by kernel_rfl) (fun _ _ _ h=>h) (by rfl) hHeld ?_ ?_
     ·(intro W hW;(try dsimp only at hW);go_simp)
     try simp only [Act.put,List.setIfInBounds_toArray,List.set_cons_zero,List.set_cons_succ]
     refine tkq 9 (.int .i64 R) 18 rfl rfl rfl (by kernel_rfl) (fun _ _ _ h=>h) (by rfl) hHeld ?_ ?_
     ·(intro W hW;(try dsimp only at hW);go_simp)
     try simp only [Act.put,List.setIfInBounds_toArray,List.set_cons_zero,List.set_cons_succ]
     obtain ⟨y0,y1,y2,yz⟩:=RX.out
     have S:=hid (RX.out.sets (.int .i64 K) (.int .i64 N) (.slice none 0 0))
     have BF:=hid (Below.put3v BB.out (q:=r7) RL.out (.int .i64 K) (.int .i64 N) (.slice none 0 0))
     refine wpAnyH_ready (rs:=[11]) (by kernel_rfl) (by simp) ?_
     refine cons2 rfl rfl (fun K9 hK=>?_)
     go_simp
     clear y0 y1 y2 yz
     generalize World.setCell _ ⟨r7,2,none⟩ _=wf at *
     refine hK.out _ _ (BF.out) (fun hX=>?_)
     clear hK K9 hHeld
     have hHeld:=hX
     clear hX
     try simp only [Act.put,List.setIfInBounds_toArray,List.set_cons_zero,List.set_cons_succ]
     refine tkq 12 (.int .i64 R) 8 rfl rfl rfl (by kernel_rfl) (fun _ _ _ h=>h) (by rfl) hHeld ?_ ?_
     ·(intro W hW;(try dsimp only at hW);go_simp)
     try simp only [Act.put,List.setIfInBounds_toArray,List.set_cons_zero,List.set_cons_succ]
     refine wpAnyH_done (by kernel_rfl) ?_ _
     go_wp2
     go_meet
     exact ⟨r7,rfl,rfl,S,BF⟩
   ·have bA:=(show Below v1.heap.size v1 (v1.alloc (.cells #[.int .i64 0,.int .i64 0,.slice none 0 0] 62)) from (Below.refl _ _).alloc (Nat.le_refl _) _)
    have BN:=hid (nextB BB.out bA)
    have RX:=hid (B3v.new v1 62 (.int .i64 0) (.int .i64 0) (.slice none 0 0))
    have RL:=hid (show w1.heap.size≤v1.heap.size from BB.out.size)
    clear bA
    go_simp
    refine hK.out _ _ BN.out (fun hX=>?_)
    clear hK K9 hHeld
    have hHeld:=hX
    clear hX
    try simp only [Act.put,List.setIfInBounds_toArray,List.set_cons_zero,List.set_cons_succ]
    clear BB
    have BB:=BN
    clear BN
    generalize World.alloc v1 _=v7 at *
    generalize v1.heap.size=r7 at *
    refine wpAnyH_ready (rs:=[5]) (by kernel_rfl) (by simp) ?_
    refine cons2 rfl rfl (fun K9 hK=>?_)
    have KV:=hid (value_any b sb v7)
    go_simp
    refine Calls.mono KV.out ?_
    rintro e9 v8 ⟨rfl,b7⟩
    clear KV
    have BN:=hid (nextB BB.out b7)
    have RN:=hid (RX.out.next b7)
    clear b7
    go_wp2_with fail
    refine hK.out _ _ BN.out (fun hX=>?_)
    clear hK K9 hHeld
    have hHeld:=hX
    clear hX
    try simp only [Act.put,List.setIfInBounds_toArray,List.set_cons_zero,List.set_cons_succ]
    clear BB
    have BB:=BN
    clear BN
    clear RX
    have RX:=RN
    clear RN
    refine wpAnyH_ready (rs:=[6]) (by kernel_rfl) (by simp) ?_
    refine cons2 rfl rfl (fun K9 hK=>?_)
    have KO:=hid (KOP.out v8 (HT.out.next BB.out))
    go_simp
    refine Calls.mono KO.out ?_
    rintro e9 v9 ⟨rfl,b7⟩
    clear KO
    have BN:=hid (nextB BB.out b7)
    have RN:=hid (RX.out.next b7)
    clear b7
    go_wp2_with fail
    refine hK.out _ _ BN.out (fun hX=>?_)
    clear hK K9 hHeld
    have hHeld:=hX
    clear hX
    try simp only [Act.put,List.setIfInBounds_toArray,List.set_cons_zero,List.set_cons_succ]
    clear BB
    have BB:=BN
    clear BN
    clear RX
    have RX:=RN
    clear RN
    refine tkq 7 (.tuple #[vl K N (.slice none 0 0),.int .i64 R]) 9 rfl rfl rfl (by kernel_rfl) (fun _ _ _ h=>h) (by rfl) hHeld ?_ ?_
    ·(intro W hW;(try dsimp only at hW);go_simp)
    try simp only [Act.put,List.setIfInBounds_toArray,List.set_cons_zero,List.set_cons_succ]
    refine tkq 8 (vl K N (.slice none 0 0)) 17 rfl rfl rfl (by kernel_rfl) (fun _ _ _ h=>h) (by rfl) hHeld ?_ ?_
    ·(intro W hW;(try dsimp only at hW);go_simp)
    try simp only [Act.put,List.setIfInBounds_toArray,List.set_cons_zero,List.set_cons_succ]
    refine tkq 9 (.int .i64 R) 18 rfl rfl rfl (by kernel_rfl) (fun _ _ _ h=>h) (by rfl) hHeld ?_ ?_
    ·(intro W hW;(try dsimp only at hW);go_simp)
    try simp only [Act.put,List.setIfInBounds_toArray,List.set_cons_zero,List.set_cons_succ]
    obtain ⟨y0,y1,y2,yz⟩:=RX.out
    have S:=hid (RX.out.sets (.int .i64 K) (.int .i64 N) (.slice none 0 0))
    have BF:=hid (Below.put3v BB.out (q:=r7) RL.out (.int .i64 K) (.int .i64 N) (.slice none 0 0))
    refine wpAnyH_ready (rs:=[11]) (by kernel_rfl) (by simp) ?_
    refine cons2 rfl rfl (fun K9 hK=>?_)
    go_simp
    clear y0 y1 y2 yz
    generalize World.setCell _ ⟨r7,2,none⟩ _=wf at *
    refine hK.out _ _ (BF.out) (fun hX=>?_)
    clear hK K9 hHeld
    have hHeld:=hX
    clear hX
    try simp only [Act.put,List.setIfInBounds_toArray,List.set_cons_zero,List.set_cons_succ]
    refine tkq 12 (.int .i64 R) 8 rfl rfl rfl (by kernel_rfl) (fun _ _ _ h=>h) (by rfl) hHeld ?_ ?_
    ·(intro W hW;(try dsimp only at hW);go_simp)
    try simp only [Act.put,List.setIfInBounds_toArray,List.set_cons_zero,List.set_cons_succ]
    refine wpAnyH_done (by kernel_rfl) ?_ _
    go_wp2
    go_meet
    exact ⟨r7,rfl,rfl,S,BF⟩
  ·have bA:=(show Below v0.heap.size v0 (v0.alloc (.cells #[.int .i64 0,.int .i64 0,.slice none 0 0] 62)) from (Below.refl _ _).alloc (Nat.le_refl _) _)
   have BN:=hid (nextB BB.out bA)
   have RX:=hid (B3v.new v0 62 (.int .i64 0) (.int .i64 0) (.slice none 0 0))
   have RL:=hid (show w1.heap.size≤v0.heap.size from BB.out.size)
   clear bA
   go_simp
   refine hK.out _ _ BN.out (fun hX=>?_)
   clear hK K9 hHeld
   have hHeld:=hX
   clear hX
   try simp only [Act.put,List.setIfInBounds_toArray,List.set_cons_zero,List.set_cons_succ]
   clear BB
   have BB:=BN
   clear BN
   generalize World.alloc v0 _=v10 at *
   generalize v0.heap.size=r7 at *
   refine wpAnyH_ready (rs:=[3]) (by kernel_rfl) (by simp) ?_
   refine cons2 rfl rfl (fun K9 hK=>?_)
   have KV:=hid (value_any a sa v10)
   go_simp
   refine Calls.mono KV.out ?_
   rintro e9 v11 ⟨rfl,b7⟩
   clear KV
   have BN:=hid (nextB BB.out b7)
   have RN:=hid (RX.out.next b7)
   clear b7
   go_wp2_with fail
   refine hK.out _ _ BN.out (fun hX=>?_)
   clear hK K9 hHeld
   have hHeld:=hX
   clear hX
   try simp only [Act.put,List.setIfInBounds_toArray,List.set_cons_zero,List.set_cons_succ]
   clear BB
   have BB:=BN
   clear BN
   clear RX
   have RX:=RN
   clear RN
   refine wpAnyH_ready (rs:=[5]) (by kernel_rfl) (by simp) ?_
   refine cons2 rfl rfl (fun K9 hK=>?_)
   have KV:=hid (value_any b sb v11)
   go_simp
   refine Calls.mono KV.out ?_
   rintro e9 v12 ⟨rfl,b7⟩
   clear KV
   have BN:=hid (nextB BB.out b7)
   have RN:=hid (RX.out.next b7)
   clear b7
   go_wp2_with fail
   refine hK.out _ _ BN.out (fun hX=>?_)
   clear hK K9 hHeld
   have hHeld:=hX
   clear hX
   try simp only [Act.put,List.setIfInBounds_toArray,List.set_cons_zero,List.set_cons_succ]
   clear BB
   have BB:=BN
   clear BN
   clear RX
   have RX:=RN
   clear RN
   refine wpAnyH_ready (rs:=[6]) (by kernel_rfl) (by simp) ?_
   refine cons2 rfl rfl (fun K9 hK=>?_)
   have KO:=hid (KOP.out v12 (HT.out.next BB.out))
   go_simp
   refine Calls.mono KO.out ?_
   rintro e9 v13 ⟨rfl,b7⟩
   clear KO
   have BN:=hid (nextB BB.out b7)
   have RN:=hid (RX.out.next b7)
   clear b7
   go_wp2_with fail
   refine hK.out _ _ BN.out (fun hX=>?_)
   clear hK K9 hHeld
   have hHeld:=hX
   clear hX
   try simp only [Act.put,List.setIfInBounds_toArray,List.set_cons_zero,List.set_cons_succ]
   clear BB
   have BB:=BN
   clear BN
   clear RX
   have RX:=RN
   clear RN
   refine tkq 7 (.tuple #[vl K N (.slice none 0 0),.int .i64 R]) 9 rfl rfl rfl (by kernel_rfl) (fun _ _ _ h=>h) (by rfl) hHeld ?_ ?_
   ·(intro W hW;(try dsimp only at hW);go_simp)
   try simp only [Act.put,List.setIfInBounds_toArray,List.set_cons_zero,List.set_cons_succ]
   refine tkq 8 (vl K N (.slice none 0 0)) 17 rfl rfl rfl (by kernel_rfl) (fun _ _ _ h=>h) (by rfl) hHeld ?_ ?_
   ·(intro W hW;(try dsimp only at hW);go_simp)
   try simp only [Act.put,List.setIfInBounds_toArray,List.set_cons_zero,List.set_cons_succ]
   refine tkq 9 (.int .i64 R) 18 rfl rfl rfl (by kernel_rfl) (fun _ _ _ h=>h) (by rfl) hHeld ?_ ?_
   ·(intro W hW;(try dsimp only at hW);go_simp)
   try simp only [Act.put,List.setIfInBounds_toArray,List.set_cons_zero,List.set_cons_succ]
   obtain ⟨y0,y1,y2,yz⟩:=RX.out
   have S:=hid (RX.out.sets (.int .i64 K) (.int .i64 N) (.slice none 0 0))
   have BF:=hid (Below.put3v BB.out (q:=r7) RL.out (.int .i64 K) (.int .i64 N) (.slice none 0 0))
   refine wpAnyH_ready (rs:=[11]) (by kernel_rfl) (by simp) ?_
   refine cons2 rfl rfl (fun K9 hK=>?_)
   go_simp
   clear y0 y1 y2 yz
   generalize World.setCell _ ⟨r7,2,none⟩ _=wf at *
   refine hK.out _ _ (BF.out) (fun hX=>?_)
   clear hK K9 hHeld
   have hHeld:=hX
   clear hX
   try simp only [Act.put,List.setIfInBounds_toArray,List.set_cons_zero,List.set_cons_succ]
   refine tkq 12 (.int .i64 R) 8 rfl rfl rfl (by kernel_rfl) (fun _ _ _ h=>h) (by rfl) hHeld ?_ ?_
   ·(intro W hW;(try dsimp only at hW);go_simp)
   try simp only [Act.put,List.setIfInBounds_toArray,List.set_cons_zero,List.set_cons_succ]
   refine wpAnyH_done (by kernel_rfl) ?_ _
   go_wp2
   go_meet
   exact ⟨r7,rfl,rfl,S,BF⟩
 case rest =>
  obtain ⟨r,rfl,rfl,RX,BX⟩:=hcut
  have B3:=hid (nextB A1.out BX.out)
  have Y3:=hid (X3.out.next BX.out)
  have Y6:=hid (X6.out.next BX.out)
  have HD2:=hid (HD.out.any B3.out)
  clear X3 X4 X5 X6 A1 HD HT KOP BX
  obtain ⟨c0,c1,c2,c3,c4,c5,_⟩:=Y3.out
  obtain ⟨y0,y1,y2,_⟩:=RX.out
  obtain ⟨z0,z1,z2,z3,z4,z5,zf⟩:=Y6.out
  by_cases q:R=0
  ·subst q
   have E:=hid (show reckE e a b=.nd ⟨#[108,105,116]⟩ ⟨#[]⟩ K.toNat N e.pl [] from by unfold reckE;rw [OE.out];simp)
   have KQ:=hid (show ((K.toNat:Nat):Int)=K from Int.toNat_of_nonneg (by
    have:=opF_nn e.op a.kind b.kind a.n b.n
    rw [OE.out] at this
    exact this))
   have S:=hid (Y6.out.sets (.string ⟨#[108,105,116]⟩) (.string ⟨#[]⟩) (.int .i64 K) (.int .i64 N) (.int .i64 (e.pl:Nat)) (.slice none 0 0))
   have BF:=hid (Below.put6X B3.out (q:=p6) P3.out (.string ⟨#[108,105,116]⟩) (.string ⟨#[]⟩) (.int .i64 K) (.int .i64 N) (.int .i64 (e.pl:Nat)) (.slice none 0 0))
   go_wp2_with fail
   clear c0 c1 c2 c3 c4 c5 y0 y1 y2 z0 z1 z2 z3 z4 z5 zf
   generalize World.setCell _ ⟨p6,5,none⟩ _=wf at *
   obtain ⟨f0,f1,f2,f3,f4,f5,_⟩:=S.out
   try simp only [Exit.inBlock,Exit.then]
   refine bodyPost_ret (v:=.agg #[.string ⟨#[108,105,116]⟩,.string ⟨#[]⟩,.int .i64 K,.int .i64 N,.int .i64 (e.pl:Nat),.slice none 0 0]) (by simp [results,Tryd.results20,go_sem,f0,f1,f2,f3,f4,f5]) rfl ?_
   rw [E.out]
   exact ⟨_,rfl,⟨.slice none 0 0,by show Value.agg #[.string ⟨#[108,105,116]⟩,.string ⟨#[]⟩,.int .i64 K,.int .i64 N,.int .i64 (e.pl:Nat),.slice none 0 0]=.agg #[.string ⟨#[108,105,116]⟩,.string ⟨#[]⟩,.int .i64 ((K.toNat:Nat):Int),.int .i64 N,.int .i64 (e.pl:Nat),.slice none 0 0];rw [KQ.out],.nil⟩,BF.out⟩
  ·have zq:=beqM _ _ q
   have zn:=neM _ _ q
   have E:=hid (show reckE e a b=e from by unfold reckE;rw [OE.out];exact if_neg q)
   have S:=hid (Y6.out.sets (.string e.op) (.string e.name) (.int .i64 (e.kind:Nat)) (.int .i64 e.n) (.int .i64 (e.pl:Nat)) (.slice ea em ec))
   have BF:=hid (Below.put6X B3.out (q:=p6) P3.out (.string e.op) (.string e.name) (.int .i64 (e.kind:Nat)) (.int .i64 e.n) (.int .i64 (e.pl:Nat)) (.slice ea em ec))
   have HD3:=hid (HD2.out.keep (S':=S0) fun g s l=>⟨s,heap6 _ p6 (.string e.op) (.string e.name) (.int .i64 (e.kind:Nat)) (.int .i64 e.n) (.int .i64 (e.pl:Nat)) (.slice ea em ec) g (fun e=>HP.out g s e)⟩)
   clear q
   go_wp2_with fail
   clear c0 c1 c2 c3 c4 c5 y0 y1 y2 z0 z1 z2 z3 z4 z5 zf
   generalize World.setCell _ ⟨p6,5,none⟩ _=wf at *
   obtain ⟨f0,f1,f2,f3,f4,f5,_⟩:=S.out
   try simp only [Exit.inBlock,Exit.then]
   refine bodyPost_ret (v:=.agg #[.string e.op,.string e.name,.int .i64 (e.kind:Nat),.int .i64 e.n,.int .i64 (e.pl:Nat),.slice ea em ec]) (by simp [results,Tryd.results20,go_sem,f0,f1,f2,f3,f4,f5]) rfl ?_
   rw [E.out]
   exact ⟨_,rfl,⟨_,rfl,HD3.out⟩,BF.out⟩
end Go.Proofs.YtbeahnehjannpaaDoor
