/- Parts of the proof. -/
import Derived.Test.YtbeahnehjannpaaDoorJN
import Derived.Test.YtbeahnehjannpaaDoorKU
import Derived.Deep.RegionHeld3
import Derived.Laws.BytesArg
import Derived.Laws.Concat
namespace Go.Proofs.YtbeahnehjannpaaDoor
open Go.RowKit
set_option linter.unusedVariables false
set_option linter.unusedSimpArgs false
theorem wpStrO {P:Program} {md:Region.Mode} {ops:Array Oper} {Q:Exit→Act→World→Prop} {S S':World→Prop} (h:∀ w,S' w→S w):∀ (fuel:Nat) (listed:Array Bool) (a:Act) (w:World),wpAnyH P md ops Q S' fuel listed a w→wpAnyH P md ops Q S fuel listed a w
 | 0,_,_,_,k=>k
 | fuel+1,_,_,_,k=>⟨k.1,fun i hi=>wpOp_mono (fun a' w' h'=>⟨h _ h'.1,wpStrO h fuel _ a' w' h'.2⟩) (k.2 i hi)⟩
theorem conv0 (w:World) (D:Int):(convert 48 9 (.slice (some ⟨w.heap.size,0,none⟩) 1 1)).run Tryd.prog (w.alloc (.cells #[.int .u8 D] 5))=.ok (.string (strOfNums [D])) (w.alloc (.cells #[.int .u8 D] 5)) :=
 run_convert_bytes_arg (P:=Tryd.prog) _ 48 5 Tryd.underlying48 Tryd.underlying5 w.heap.size 0 1 1 [D] rfl (fun i hi=>by
  obtain rfl:i=0:=by omega
  simp) 9 Tryd.underlying9
theorem conv1 (w:World) (D:Int):∀ W,Below (w.alloc (.cells #[.int .u8 D] 5)).heap.size (w.alloc (.cells #[.int .u8 D] 5)) W→(convert 48 9 (.slice (some ⟨w.heap.size,0,none⟩) 1 1)).run Tryd.prog W=.ok (.string (strOfNums [D])) W:=fun W hW =>
 run_convert_bytes_arg (P:=Tryd.prog) _ 48 5 Tryd.underlying48 Tryd.underlying5 w.heap.size 0 1 1 [D] rfl (fun i hi=>by
  obtain rfl:i=0:=by omega
  rw [hW.cell (p:=⟨w.heap.size,0+0,none⟩) (by simp)]
  simp) 9 Tryd.underlying9
theorem str_one {d:Nat} (h:d≤9):strOfNums [48+(d:Int)]=tx [UInt8.ofNat (48+d)]:=by
 unfold strOfNums tx
 simp only [List.map_cons,List.map_nil]
 rw [show (48+(d:Int)).toNat=48+d by omega]
set_option maxHeartbeats 2000000 in
theorem text_one (n:Nat) (w:World) (h:n<10):Calls Tryd.prog 11 #[.int .i64 (n:Nat)] w fun e w'=>e=.returned (.string (tx (dec n)))∧Below w.heap.size w w':=by
 have kd:=conv0 w (48+(n:Int))
 have E:=hid (show tx (dec n)=strOfNums [48+(n:Int)] from by rw [dec_one h,str_one (by omega)])
 have h1:(n:Int)<10:=by omega
 have h2:¬ (n:Int)<0:=by omega
 go_enter Tryd.func11,Tryd.ntmps11
 go_wp2_with fail
 go_ret
 exact ⟨by rw [E.out];rfl,(Below.refl _ _).alloc (Nat.le_refl _) _⟩
set_option maxRecDepth 100000 in
set_option maxHeartbeats 4000000 in
theorem text_more (n q r:Nat) (w:World) (h:10≤n) (h2:n≤1000000000000000000) (hq:q=n / 10) (hr:r=n % 10)
  (ih:∀ w,Calls Tryd.prog 11 #[.int .i64 (q:Nat)] w fun e w'=>e=.returned (.string (tx (dec q)))∧Below w.heap.size w w') :
  Calls Tryd.prog 11 #[.int .i64 (n:Nat)] w fun e w'=>e=.returned (.string (tx (dec n)))∧Below w.heap.size w w':=by
 have IH:=hid ih
 have r9:r≤9:=by omega
 have e1:(n:Int) / 10=(q:Int):=by omega
 have e2:(n:Int) % 10=(r:Int):=by omega
 obtain ⟨D,hD⟩:∃ D:Int,D=48+(r:Int):=⟨_,rfl⟩
 have e3:48+(r:Int)=D:=hD.symm
 have TE:=hid (show tx (dec n)=tx (dec q) ++ strOfNums [D] from by rw [dec_step h h2,hD,str_one r9,tx_cat,hq,hr])
 have z1:(tx (dec q)).size≤21:=by rw [tx_sz];exact (dec_len q).2
 have z2:(strOfNums [D]).size=1:=rfl
 have d1:48≤D:=by omega
 have d2:D≤57:=by omega
 have h1:¬ (n:Int)<10:=by omega
 have h3:¬ (n:Int)<0:=by omega
 have f1:IntKind.i64.wrap (q:Int)=(q:Int):=by go_arith
 have f2:(n:Int).tmod 10=(r:Int):=by rw [Int.tmod_eq_emod_of_nonneg (by omega)];exact e2
 have f3:IntKind.i64.wrap D=D:=by go_arith
 have f4:IntKind.u8.wrap D=D:=by go_arith
 have f5:(tx (dec q)).size≤9223372036854775806:=by omega
 clear ih hq hr hD
 generalize tx (dec n)=TT at *
 generalize tx (dec q)=T1 at *
 generalize hT2:strOfNums [D]=T2 at *
 go_enter Tryd.func11,Tryd.ntmps11
 go_upto_region 7 with fail
 refine wp_region_held_drew (S:=Below w.heap.size w) (by kernel_rfl) ((Below.refl _ _).drew) (fun hHeld=>?_)
 have DR:=hid ((Below.refl w.heap.size w).drew)
 generalize w.drew=wz at *
 refine take2 rfl (i:=0) (v:=.int .i64 (n:Nat)) (d:=18) rfl rfl (by kernel_rfl) (by kernel_rfl) (by kernel_rfl) (fun _ _ _ h=>h) (Or.inl ⟨by rfl,?_⟩) hHeld ?_
 ·(intro W hW;(try dsimp only at hW);go_simp)
 try simp only [Act.put,List.setIfInBounds_toArray,List.set_cons_zero,List.set_cons_succ]
 refine take2 rfl (i:=1) (v:=.int .i64 (q:Nat)) (d:=19) rfl rfl (by kernel_rfl) (by kernel_rfl) (by kernel_rfl) (fun _ _ _ h=>h) (Or.inl ⟨by rfl,?_⟩) hHeld ?_
 ·(intro W hW;(try dsimp only at hW);go_simp)
 try simp only [Act.put,List.setIfInBounds_toArray,List.set_cons_zero,List.set_cons_succ]
 refine take2 rfl (i:=3) (v:=.int .i64 (n:Nat)) (d:=21) rfl rfl (by kernel_rfl) (by kernel_rfl) (by kernel_rfl) (fun _ _ _ h=>h) (Or.inl ⟨by rfl,?_⟩) hHeld ?_
 ·(intro W hW;(try dsimp only at hW);go_simp)
 try simp only [Act.put,List.setIfInBounds_toArray,List.set_cons_zero,List.set_cons_succ]
 refine take2 rfl (i:=4) (v:=.int .i64 (r:Nat)) (d:=22) rfl rfl (by kernel_rfl) (by kernel_rfl) (by kernel_rfl) (fun _ _ _ h=>h) (Or.inl ⟨by rfl,?_⟩) hHeld ?_
 ·(intro W hW;(try dsimp only at hW);go_simp)
 try simp only [Act.put,List.setIfInBounds_toArray,List.set_cons_zero,List.set_cons_succ]
 refine take2 rfl (i:=5) (v:=.int .i64 D) (d:=23) rfl rfl (by kernel_rfl) (by kernel_rfl) (by kernel_rfl) (fun _ _ _ h=>h) (Or.inl ⟨by rfl,?_⟩) hHeld ?_
 ·(intro W hW;(try dsimp only at hW);go_simp)
 try simp only [Act.put,List.setIfInBounds_toArray,List.set_cons_zero,List.set_cons_succ]
 refine take2 rfl (i:=6) (v:=.int .u8 D) (d:=24) rfl rfl (by kernel_rfl) (by kernel_rfl) (by kernel_rfl) (fun _ _ _ h=>h) (Or.inl ⟨by rfl,?_⟩) hHeld ?_
 ·(intro W hW;(try dsimp only at hW);go_simp)
 try simp only [Act.put,List.setIfInBounds_toArray,List.set_cons_zero,List.set_cons_succ]
 refine wpAnyH_ready (rs:=[2,7]) (by kernel_rfl) (by simp) ?_
 refine cons22 rfl rfl rfl (fun K9 hK=>?_) (fun K9 hK=>?_)
 ·go_simp
  go_at_call 11
  refine Calls.mono (IH.out _) ?_
  rintro e w5 ⟨rfl,b5⟩
  go_wp2_with fail
  refine hK.out _ _ (nextB hHeld b5) (fun hX=>?_)
  clear hK K9 hHeld
  have hHeld:=hX
  clear hX
  try simp only [Act.put,List.setIfInBounds_toArray,List.set_cons_zero,List.set_cons_succ]
  refine wpAnyH_ready (rs:=[7]) (by kernel_rfl) (by simp) ?_
  refine cons2 rfl rfl (fun K9 hK=>?_)
  go_simp
  refine hK.out _ _ (nextB hHeld ((Below.refl _ _).alloc (Nat.le_refl _) _)) (fun hX=>?_)
  clear hK K9 hHeld
  have hHeld:=hX
  clear hX
  try simp only [Act.put,List.setIfInBounds_toArray,List.set_cons_zero,List.set_cons_succ]
  have CV:=hid (conv1 w5 D)
  generalize w5.alloc (.cells #[.int .u8 D] 5)=w6 at *
  generalize w5.heap.size=g at *
  refine wpStrO (S':=Below w6.heap.size w6) (fun W hW=>nextB hHeld hW) _ _ _ _ ?_
  have HW0:=hid hHeld
  clear hHeld
  have hHeld:=Below.refl w6.heap.size w6
  refine take2 rfl (i:=8) (v:=.string T2) (d:=26) rfl rfl (by kernel_rfl) (by kernel_rfl) (by kernel_rfl) (fun _ _ _ h=>h) (Or.inl ⟨by rfl,?_⟩) hHeld ?_
  ·(intro W hW;(try dsimp only at hW);have kd:=CV.out W hW;go_simp)
  try simp only [Act.put,List.setIfInBounds_toArray,List.set_cons_zero,List.set_cons_succ]
  refine take2 rfl (i:=9) (v:=.string (T1 ++ T2)) (d:=27) rfl rfl (by kernel_rfl) (by kernel_rfl) (by kernel_rfl) (fun _ _ _ h=>h) (Or.inl ⟨by rfl,?_⟩) hHeld ?_
  ·(intro W hW;(try dsimp only at hW);go_simp)
  try simp only [Act.put,List.setIfInBounds_toArray,List.set_cons_zero,List.set_cons_succ]
  refine take2 rfl (i:=10) (v:=.string (T1 ++ T2)) (d:=2) rfl rfl (by kernel_rfl) (by kernel_rfl) (by kernel_rfl) (fun _ _ _ h=>h) (Or.inl ⟨by rfl,?_⟩) hHeld ?_
  ·(intro W hW;(try dsimp only at hW);go_simp)
  try simp only [Act.put,List.setIfInBounds_toArray,List.set_cons_zero,List.set_cons_succ]
  refine wpAnyH_done (by kernel_rfl) ?_ _
  go_wp2
  go_ret
  exact ⟨by rw [TE.out];rfl,HW0.out⟩
 ·go_simp
  refine hK.out _ _ (nextB hHeld ((Below.refl _ _).alloc (Nat.le_refl _) _)) (fun hX=>?_)
  clear hK K9 hHeld
  have hHeld:=hX
  clear hX
  try simp only [Act.put,List.setIfInBounds_toArray,List.set_cons_zero,List.set_cons_succ]
  have CV:=hid (conv1 wz D)
  generalize wz.alloc (.cells #[.int .u8 D] 5)=w6 at *
  generalize wz.heap.size=g at *
  refine wpStrO (S':=Below w6.heap.size w6) (fun W hW=>nextB hHeld hW) _ _ _ _ ?_
  have HW0:=hid hHeld
  clear hHeld
  have hHeld:=Below.refl w6.heap.size w6
  refine take2 rfl (i:=8) (v:=.string T2) (d:=26) rfl rfl (by kernel_rfl) (by kernel_rfl) (by kernel_rfl) (fun _ _ _ h=>h) (Or.inl ⟨by rfl,?_⟩) hHeld ?_
  ·(intro W hW;(try dsimp only at hW);have kd:=CV.out W hW;go_simp)
  try simp only [Act.put,List.setIfInBounds_toArray,List.set_cons_zero,List.set_cons_succ]
  refine wpAnyH_ready (rs:=[2]) (by kernel_rfl) (by simp) ?_
  refine cons2 rfl rfl (fun K9 hK=>?_)
  go_simp
  go_at_call 11
  refine Calls.mono (IH.out _) ?_
  rintro e w5 ⟨rfl,b5⟩
  go_wp2_with fail
  refine hK.out _ _ (nextB hHeld b5) (fun hX=>?_)
  clear hK K9 hHeld
  have hHeld:=hX
  clear hX
  try simp only [Act.put,List.setIfInBounds_toArray,List.set_cons_zero,List.set_cons_succ]
  refine take2 rfl (i:=9) (v:=.string (T1 ++ T2)) (d:=27) rfl rfl (by kernel_rfl) (by kernel_rfl) (by kernel_rfl) (fun _ _ _ h=>h) (Or.inl ⟨by rfl,?_⟩) hHeld ?_
  ·(intro W hW;(try dsimp only at hW);go_simp)
  try simp only [Act.put,List.setIfInBounds_toArray,List.set_cons_zero,List.set_cons_succ]
  refine take2 rfl (i:=10) (v:=.string (T1 ++ T2)) (d:=2) rfl rfl (by kernel_rfl) (by kernel_rfl) (by kernel_rfl) (fun _ _ _ h=>h) (Or.inl ⟨by rfl,?_⟩) hHeld ?_
  ·(intro W hW;(try dsimp only at hW);go_simp)
  try simp only [Act.put,List.setIfInBounds_toArray,List.set_cons_zero,List.set_cons_succ]
  refine wpAnyH_done (by kernel_rfl) ?_ _
  go_wp2
  go_ret
  exact ⟨by rw [TE.out];rfl,nextB HW0.out hHeld⟩
theorem text_any:∀ (n:Nat) (w:World),n≤1000000000000000000→Calls Tryd.prog 11 #[.int .i64 (n:Nat)] w fun e w'=>e=.returned (.string (tx (dec n)))∧Below w.heap.size w w':=by
 intro n
 induction n using Nat.strongRecOn with
 | ind n ih =>
  intro w hn
  rcases Nat.lt_or_ge n 10 with c | c
  ·exact text_one n w c
  ·exact text_more n (n / 10) (n % 10) w c hn rfl rfl (fun w=>ih (n / 10) (by omega) w (by omega))
theorem lit_2 (n:Nat) (w:World) (hn:n≤4503599627370496):Calls Tryd.prog 5 #[.int .i64 2,.int .i64 (n:Nat)] w fun e w'=>e=.returned (.string (tx (dec n)))∧Below w.heap.size w w':=by
 have TH:=hid fun w=>text_any n w (by omega)
 have h:¬ (n:Int)<0:=by omega
 go_enter Tryd.func5,Tryd.ntmps5
 go_wp2_with (go_at_call 11;refine Calls.mono (TH.out _) ?_;rintro e w1 ⟨rfl,b1⟩)
 go_ret
 exact ⟨rfl,b1⟩
end Go.Proofs.YtbeahnehjannpaaDoor
