/- Parts of the proof. -/
import Derived.Test.YteknljnjcoehoaaGreatDoorPr
import Derived.Laws.BytesArg
import Derived.Laws.Concat
namespace Go.Proofs.YteknljnjcoehoaaGreatDoor
open Go.RowKit
set_option linter.unusedVariables false
set_option linter.unusedSimpArgs false
def decG:Nat→Nat→List UInt8
 | 0,n=>[UInt8.ofNat (48+n % 10)]
 | f+1,n=>if n<10 then [UInt8.ofNat (48+n)] else decG f (n / 10) ++ [UInt8.ofNat (48+n % 10)]
def dec (n:Nat):List UInt8:=decG 20 n
theorem decG_len (f:Nat):∀ n,1≤(decG f n).length∧(decG f n).length≤f+1:=by
 induction f with
 | zero=>intro n;simp [decG]
 | succ f ih =>
  intro n
  unfold decG
  split
  ·simp
  ·have:=ih (n / 10)
   simp
   omega
theorem dec_len (n:Nat):1≤(dec n).length∧(dec n).length≤21:=decG_len 20 n
theorem dec_step {n:Nat} (h:10≤n) (h2:n≤1000000000000000000):dec n=dec (n / 10) ++ [UInt8.ofNat (48+n % 10)]:=by
 have key:∀ f m,m<10 ^ (f+1)→decG (f+1) m=decG f m:=by
  intro f
  induction f with
  | zero=>intro m hm;unfold decG;rw [if_pos (by omega),show m % 10=m by omega]
  | succ f ih =>
   intro m hm
   show (if m<10 then [UInt8.ofNat (48+m)] else decG (f+1) (m / 10) ++ [UInt8.ofNat (48+m % 10)])=(if m<10 then [UInt8.ofNat (48+m)] else decG f (m / 10) ++ [UInt8.ofNat (48+m % 10)])
   split
   ·rfl
   ·rw [ih (m / 10) (by rw [Nat.pow_succ] at hm;omega)]
 show decG 20 n=decG 20 (n / 10) ++ _
 rw [key 19 (n / 10) (by show n / 10<10 ^ 20;omega)]
 show (if n<10 then _ else _)=_
 rw [if_neg (by omega)]
theorem dec_one {n:Nat} (h:n<10):dec n=[UInt8.ofNat (48+n)]:=if_pos h
theorem wpStrO {P:Program} {md:Region.Mode} {ops:Array Oper} {Q:Exit→Act→World→Prop} {S S':World→Prop} (h:∀ w,S' w→S w):∀ (fuel:Nat) (listed:Array Bool) (a:Act) (w:World),wpAnyH P md ops Q S' fuel listed a w→wpAnyH P md ops Q S fuel listed a w
 | 0,_,_,_,k=>k
 | fuel+1,_,_,_,k=>⟨k.1,fun i hi=>wpOp_mono (fun a' w' h'=>⟨h _ h'.1,wpStrO h fuel _ a' w' h'.2⟩) (k.2 i hi)⟩
theorem conv0 (w:World) (D:Int):(convert 160 9 (.slice (some ⟨w.heap.size,0,none⟩) 1 1)).run Tryz.prog (w.alloc (.cells #[.int .u8 D] 5))=.ok (.string (strOfNums [D])) (w.alloc (.cells #[.int .u8 D] 5)) :=
 run_convert_bytes_arg (P:=Tryz.prog) _ 160 5 Tryz.underlying160 Tryz.underlying5 w.heap.size 0 1 1 [D] rfl (fun i hi=>by
  obtain rfl:i=0:=by omega
  simp) 9 Tryz.underlying9
theorem conv1 (w:World) (D:Int):∀ W,Below (w.alloc (.cells #[.int .u8 D] 5)).heap.size (w.alloc (.cells #[.int .u8 D] 5)) W→(convert 160 9 (.slice (some ⟨w.heap.size,0,none⟩) 1 1)).run Tryz.prog W=.ok (.string (strOfNums [D])) W:=fun W hW =>
 run_convert_bytes_arg (P:=Tryz.prog) _ 160 5 Tryz.underlying160 Tryz.underlying5 w.heap.size 0 1 1 [D] rfl (fun i hi=>by
  obtain rfl:i=0:=by omega
  rw [hW.cell (p:=⟨w.heap.size,0+0,none⟩) (by simp)]
  simp) 9 Tryz.underlying9
theorem str_one {d:Nat} (h:d≤9):strOfNums [48+(d:Int)]=tx [UInt8.ofNat (48+d)]:=by
 unfold strOfNums tx
 simp only [List.map_cons,List.map_nil]
 rw [show (48+(d:Int)).toNat=48+d by omega]
set_option maxHeartbeats 2000000 in
theorem text_one (n:Nat) (w:World) (h:n<10):Calls Tryz.prog 66 #[.int .i64 (n:Nat)] w fun e w'=>e=.returned (.string (tx (dec n)))∧Below w.heap.size w w':=by
 have kd:=conv0 w (48+(n:Int))
 have E:=hid (show tx (dec n)=strOfNums [48+(n:Int)] from by rw [dec_one h,str_one (by omega)])
 have h1:(n:Int)<10:=by omega
 have h2:¬ (n:Int)<0:=by omega
 go_enter Tryz.func66,Tryz.ntmps66
 go_wp2_with fail
 go_ret
 exact ⟨by rw [E.out];rfl,(Below.refl _ _).alloc (Nat.le_refl _) _⟩
set_option maxRecDepth 100000 in
set_option maxHeartbeats 4000000 in
theorem text_more (n q r:Nat) (w:World) (h:10≤n) (h2:n≤1000000000000000000) (hq:q=n / 10) (hr:r=n % 10)
  (ih:∀ w,Calls Tryz.prog 66 #[.int .i64 (q:Nat)] w fun e w'=>e=.returned (.string (tx (dec q)))∧Below w.heap.size w w') :
  Calls Tryz.prog 66 #[.int .i64 (n:Nat)] w fun e w'=>e=.returned (.string (tx (dec n)))∧Below w.heap.size w w':=by
 have IH:=hid ih
 have r9:r≤9:=by omega
 have e1:(n:Int) / 10=(q:Int):=by omega
 have e2:(n:Int) % 10=(r:Int):=by omega
 obtain ⟨D,hD⟩:∃ D:Int,D=48+(r:Int):=⟨_,rfl⟩
 have e3:48+(r:Int)=D:=hD.symm
 have TE:=hid (show tx (dec n)=tx (dec q) ++ strOfNums [D] from by rw [dec_step h h2,hD,str_one r9,tx_cat,hq,hr])
 have z1:(tx (dec q)).size≤21:=by rw [tx_sz];exact (dec_len q).2
 have z2:(strOfNums [D]).size=1:=rfl
 have d1:48≤D:=by omega
 have d2:D≤57:=by omega
 have h1:¬ (n:Int)<10:=by omega
 have h3:¬ (n:Int)<0:=by omega
 have f1:IntKind.i64.wrap (q:Int)=(q:Int):=by go_arith
 have f2:(n:Int).tmod 10=(r:Int):=by rw [Int.tmod_eq_emod_of_nonneg (by omega)];exact e2
 have f3:IntKind.i64.wrap D=D:=by go_arith
 have f4:IntKind.u8.wrap D=D:=by go_arith
 have f5:(tx (dec q)).size≤9223372036854775806:=by omega
 clear ih hq hr hD
 generalize tx (dec n)=TT at *
 generalize tx (dec q)=T1 at *
 generalize hT2:strOfNums [D]=T2 at *
 go_enter Tryz.func66,Tryz.ntmps66
 go_upto_region 7 with fail
 refine wp_region_held_drew (S:=Below w.heap.size w) (by kernel_rfl) ((Below.refl _ _).drew) (fun hHeld=>?_)
 have DR:=hid ((Below.refl w.heap.size w).drew)
 generalize w.drew=wz at *
 refine take2 rfl (i:=0) (v:=.int .i64 (n:Nat)) (d:=18) rfl rfl (by kernel_rfl) (by kernel_rfl) (by kernel_rfl) (fun _ _ _ h=>h) (Or.inl ⟨by rfl,?_⟩) hHeld ?_
 ·(intro W hW;(try dsimp only at hW);go_simp)
 try simp only [Act.put,List.setIfInBounds_toArray,List.set_cons_zero,List.set_cons_succ]
 refine take2 rfl (i:=1) (v:=.int .i64 (q:Nat)) (d:=19) rfl rfl (by kernel_rfl) (by kernel_rfl) (by kernel_rfl) (fun _ _ _ h=>h) (Or.inl ⟨by rfl,?_⟩) hHeld ?_
 ·(intro W hW;(try dsimp only at hW);go_simp)
 try simp only [Act.put,List.setIfInBounds_toArray,List.set_cons_zero,List.set_cons_succ]
 refine take2 rfl (i:=3) (v:=.int .i64 (n:Nat)) (d:=21) rfl rfl (by kernel_rfl) (by kernel_rfl) (by kernel_rfl) (fun _ _ _ h=>h) (Or.inl ⟨by rfl,?_⟩) hHeld ?_
 ·(intro W hW;(try dsimp only at hW);go_simp)
 try simp only [Act.put,List.setIfInBounds_toArray,List.set_cons_zero,List.set_cons_succ]
 refine take2 rfl (i:=4) (v:=.int .i64 (r:Nat)) (d:=22) rfl rfl (by kernel_rfl) (by kernel_rfl) (by kernel_rfl) (fun _ _ _ h=>h) (Or.inl ⟨by rfl,?_⟩) hHeld ?_
 ·(intro W hW;(try dsimp only at hW);go_simp)
 try simp only [Act.put,List.setIfInBounds_toArray,List.set_cons_zero,List.set_cons_succ]
 refine take2 rfl (i:=5) (v:=.int .i64 D) (d:=23) rfl rfl (by kernel_rfl) (by kernel_rfl) (by kernel_rfl) (fun _ _ _ h=>h) (Or.inl ⟨by rfl,?_⟩) hHeld ?_
 ·(intro W hW;(try dsimp only at hW);go_simp)
 try simp only [Act.put,List.setIfInBounds_toArray,List.set_cons_zero,List.set_cons_succ]
 refine take2 rfl (i:=6) (v:=.int .u8 D) (d:=24) rfl rfl (by kernel_rfl) (by kernel_rfl) (by kernel_rfl) (fun _ _ _ h=>h) (Or.inl ⟨by rfl,?_⟩) hHeld ?_
 ·(intro W hW;(try dsimp only at hW);go_simp)
 try simp only [Act.put,List.setIfInBounds_toArray,List.set_cons_zero,List.set_cons_succ]
 refine wpAnyH_ready (rs:=[2,7]) (by kernel_rfl) (by simp) ?_
 refine cons22 rfl rfl rfl (fun K9 hK=>?_) (fun K9 hK=>?_)
 ·go_simp
  go_at_call 66
  refine Calls.mono (IH.out _) ?_
  rintro e w5 ⟨rfl,b5⟩
  go_wp2_with fail
  refine hK.out _ _ (nextB hHeld b5) (fun hX=>?_)
  clear hK K9 hHeld
  have hHeld:=hX
  clear hX
  try simp only [Act.put,List.setIfInBounds_toArray,List.set_cons_zero,List.set_cons_succ]
  refine wpAnyH_ready (rs:=[7]) (by kernel_rfl) (by simp) ?_
  refine cons2 rfl rfl (fun K9 hK=>?_)
  go_simp
  refine hK.out _ _ (nextB hHeld ((Below.refl _ _).alloc (Nat.le_refl _) _)) (fun hX=>?_)
  clear hK K9 hHeld
  have hHeld:=hX
  clear hX
  try simp only [Act.put,List.setIfInBounds_toArray,List.set_cons_zero,List.set_cons_succ]
  have CV:=hid (conv1 w5 D)
  generalize w5.alloc (.cells #[.int .u8 D] 5)=w6 at *
  generalize w5.heap.size=g at *
  refine wpStrO (S':=Below w6.heap.size w6) (fun W hW=>nextB hHeld hW) _ _ _ _ ?_
  have HW0:=hid hHeld
  clear hHeld
  have hHeld:=Below.refl w6.heap.size w6
  refine take2 rfl (i:=8) (v:=.string T2) (d:=26) rfl rfl (by kernel_rfl) (by kernel_rfl) (by kernel_rfl) (fun _ _ _ h=>h) (Or.inl ⟨by rfl,?_⟩) hHeld ?_
  ·(intro W hW;(try dsimp only at hW);have kd:=CV.out W hW;go_simp)
  try simp only [Act.put,List.setIfInBounds_toArray,List.set_cons_zero,List.set_cons_succ]
  refine take2 rfl (i:=9) (v:=.string (T1 ++ T2)) (d:=27) rfl rfl (by kernel_rfl) (by kernel_rfl) (by kernel_rfl) (fun _ _ _ h=>h) (Or.inl ⟨by rfl,?_⟩) hHeld ?_
  ·(intro W hW;(try dsimp only at hW);go_simp)
  try simp only [Act.put,List.setIfInBounds_toArray,List.set_cons_zero,List.set_cons_succ]
  refine take2 rfl (i:=10) (v:=.string (T1 ++ T2)) (d:=2) rfl rfl (by kernel_rfl) (by kernel_rfl) (by kernel_rfl) (fun _ _ _ h=>h) (Or.inl ⟨by rfl,?_⟩) hHeld ?_
  ·(intro W hW;(try dsimp only at hW);go_simp)
  try simp only [Act.put,List.setIfInBounds_toArray,List.set_cons_zero,List.set_cons_succ]
  refine wpAnyH_done (by kernel_rfl) ?_ _
  go_wp2
  go_ret
  exact ⟨by rw [TE.out];rfl,HW0.out⟩
 ·go_simp
  refine hK.out _ _ (nextB hHeld ((Below.refl _ _).alloc (Nat.le_refl _) _)) (fun hX=>?_)
  clear hK K9 hHeld
  have hHeld:=hX
  clear hX
  try simp only [Act.put,List.setIfInBounds_toArray,List.set_cons_zero,List.set_cons_succ]
  have CV:=hid (conv1 wz D)
  generalize wz.alloc (.cells #[.int .u8 D] 5)=w6 at *
  generalize wz.heap.size=g at *
  refine wpStrO (S':=Below w6.heap.size w6) (fun W hW=>nextB hHeld hW) _ _ _ _ ?_
  have HW0:=hid hHeld
  clear hHeld
  have hHeld:=Below.refl w6.heap.size w6
  refine take2 rfl (i:=8) (v:=.string T2) (d:=26) rfl rfl (by kernel_rfl) (by kernel_rfl) (by kernel_rfl) (fun _ _ _ h=>h) (Or.inl ⟨by rfl,?_⟩) hHeld ?_
  ·(intro W hW;(try dsimp only at hW);have kd:=CV.out W hW;go_simp)
  try simp only [Act.put,List.setIfInBounds_toArray,List.set_cons_zero,List.set_cons_succ]
  refine wpAnyH_ready (rs:=[2]) (by kernel_rfl) (by simp) ?_
  refine cons2 rfl rfl (fun K9 hK=>?_)
  go_simp
  go_at_call 66
  refine Calls.mono (IH.out _) ?_
  rintro e w5 ⟨rfl,b5⟩
  go_wp2_with fail
  refine hK.out _ _ (nextB hHeld b5) (fun hX=>?_)
  clear hK K9 hHeld
  have hHeld:=hX
  clear hX
  try simp only [Act.put,List.setIfInBounds_toArray,List.set_cons_zero,List.set_cons_succ]
  refine take2 rfl (i:=9) (v:=.string (T1 ++ T2)) (d:=27) rfl rfl (by kernel_rfl) (by kernel_rfl) (by kernel_rfl) (fun _ _ _ h=>h) (Or.inl ⟨by rfl,?_⟩) hHeld ?_
  ·(intro W hW;(try dsimp only at hW);go_simp)
  try simp only [Act.put,List.setIfInBounds_toArray,List.set_cons_zero,List.set_cons_succ]
  refine take2 rfl (i:=10) (v:=.string (T1 ++ T2)) (d:=2) rfl rfl (by kernel_rfl) (by kernel_rfl) (by kernel_rfl) (fun _ _ _ h=>h) (Or.inl ⟨by rfl,?_⟩) hHeld ?_
  ·(intro W hW;(try dsimp only at hW);go_simp)
  try simp only [Act.put,List.setIfInBounds_toArray,List.set_cons_zero,List.set_cons_succ]
  refine wpAnyH_done (by kernel_rfl) ?_ _
  go_wp2
  go_ret
  exact ⟨by rw [TE.out];rfl,nextB HW0.out hHeld⟩
theorem text_any:∀ (n:Nat) (w:World),n≤1000000000000000000→Calls Tryz.prog 66 #[.int .i64 (n:Nat)] w fun e w'=>e=.returned (.string (tx (dec n)))∧Below w.heap.size w w':=by
 intro n
 induction n using Nat.strongRecOn with
 | ind n ih =>
  intro w hn
  rcases Nat.lt_or_ge n 10 with c | c
  ·exact text_one n w c
  ·exact text_more n (n / 10) (n % 10) w c hn rfl rfl (fun w=>ih (n / 10) (by omega) w (by omega))
theorem lit_2 (n:Nat) (w:World) (hn:n≤4503599627370496):Calls Tryz.prog 27 #[.int .i64 2,.int .i64 (n:Nat)] w fun e w'=>e=.returned (.string (tx (dec n)))∧Below w.heap.size w w':=by
 have TH:=hid fun w=>text_any n w (by omega)
 have h:¬ (n:Int)<0:=by omega
 go_enter Tryz.func27,Tryz.ntmps27
 go_wp2_with (go_at_call 66;refine Calls.mono (TH.out _) ?_;rintro e w1 ⟨rfl,b1⟩)
 go_ret
 exact ⟨rfl,b1⟩
def rgA (i:Nat):List UInt8:=[114,117,108,101,32,114] ++ dec i ++ [32,99,111,117,110,116,32,61,32]
def rgB (j:Nat):List UInt8:=[49,32,43,32,114] ++ dec j ++ [59,32]
def rgL (n:Nat):Nat→List UInt8
 | 0=>[]
 | i+1=>rgL n i ++ (rgA i ++ rgB ((i+1) % n))
def rwL (n c:Nat):Nat→List UInt8
 | 0=>[]
 | i+1=>rwL n c i ++ (rgA i ++ if i=c then [48,59,32] else rgB ((i+1) % n))
def rgN (n c:Nat):List ByteArray:=(List.range n).map fun i=>tx (114 :: dec ((c+n - i) % n))
def ckR (n:Nat):Bool:=match parseX (tx (rgL n n)) with | .inl T=>(ckF T.kids).isNone && (sorG T.kids).isNone | .inr _=>false
def ckW (n c:Nat):Bool:=match parseX (tx (rwL n c n)) with | .inl T=>(ckF T.kids).isNone && (match sorG T.kids with | some l=>txB l (rgN n c) | none=>false) | .inr _=>false
theorem ckR_of {n:Nat} (h:ckR n=true):okX (tx (rgL n n))=true∧sortR (trX (tx (rgL n n))).kids=none:=by
 unfold ckR at h
 unfold okX trX
 cases q:parseX (tx (rgL n n)) with
 | inr x=>rw [q] at h;cases h
 | inl T =>
  rw [q] at h
  have h:((ckF T.kids).isNone && (sorG T.kids).isNone)=true:=h
  simp only [Bool.and_eq_true,Option.isNone_iff_eq_none] at h
  exact ⟨rfl,sort_ring h.1 h.2⟩
theorem ckW_of {n c:Nat} (h:ckW n c=true):okX (tx (rwL n c n))=true∧sortR (trX (tx (rwL n c n))).kids=some (rgN n c):=by
 unfold ckW at h
 unfold okX trX
 cases q:parseX (tx (rwL n c n)) with
 | inr x=>rw [q] at h;cases h
 | inl T =>
  rw [q] at h
  have h:((ckF T.kids).isNone && (match sorG T.kids with | some l=>txB l (rgN n c) | none=>false))=true:=h
  simp only [Bool.and_eq_true,Option.isNone_iff_eq_none] at h
  refine ⟨rfl,?_⟩
  cases z:sorG T.kids with
  | none=>rw [z] at h;exact absurd h.2 (by simp)
  | some l =>
   rw [z] at h
   have e:l=rgN n c:=(txB_iff _ _).1 h.2
   exact sort_good h.1 (by rw [z,e])
theorem rgA_len (i:Nat):(rgA i).length≤36:=by
 unfold rgA
 have:=(dec_len i).2
 simp only [List.length_append,List.length_cons,List.length_nil]
 omega
theorem rgB_len (i:Nat):(rgB i).length≤28:=by
 unfold rgB
 have:=(dec_len i).2
 simp only [List.length_append,List.length_cons,List.length_nil]
 omega
theorem rgL_len (n:Nat):∀ i,(rgL n i).length≤64*i
 | 0=>Nat.le_refl _
 | i+1=>by
  rw [rgL,List.length_append,List.length_append]
  have:=rgL_len n i
  have:=rgA_len i
  have:=rgB_len ((i+1) % n)
  omega
theorem rwL_len (n c:Nat):∀ i,(rwL n c i).length≤64*i
 | 0=>Nat.le_refl _
 | i+1=>by
  rw [rwL,List.length_append,List.length_append]
  have:=rwL_len n c i
  have:=rgA_len i
  have:=rgB_len ((i+1) % n)
  split
  ·show _+(_+3)≤_;omega
  ·omega
theorem txc (l m:List UInt8):tx l ++ tx m=tx (l ++ m):=by
 apply ByteArray.ext
 simp [tx]
theorem txz (l:List UInt8):(tx l).size=l.length:=by simp [tx,ByteArray.size]
theorem rgN_len (n c:Nat):(rgN n c).length=n:=by unfold rgN;rw [List.length_map,List.length_range]
theorem rgN_get {n c i:Nat} (h:i<n):(rgN n c)[i]?=some (tx (114 :: dec ((c+n - i) % n))):=by
 unfold rgN
 rw [List.getElem?_map,List.getElem?_range h]
 rfl
end Go.Proofs.YteknljnjcoehoaaGreatDoor
