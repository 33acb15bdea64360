/- Parts of the proof. -/
import Derived.Test.YteknljnjcoehoaaGreatDoorPe
import Derived.Deep.MidRow
namespace Go.Proofs.YteknljnjcoehoaaGreatDoor
open Go.RowKit
set_option linter.unusedVariables false
set_option linter.unusedSimpArgs false
structure N2 where
 n:ByteArray
 a:Option Addr
 m:Nat
 c:Nat
def N2.cs (y:N2):List Value:=[.string y.n,.slice y.a y.m y.c]
def c2 (ys:List N2):List Value:=ys.flatMap N2.cs
theorem c2_len:∀ ys:List N2,(c2 ys).length=ys.length*2
 | []=>rfl
 | y :: ys=>by
  have:=c2_len ys
  unfold c2 at this ⊢
  simp only [List.flatMap_cons,List.length_append,List.length_cons,this]
  simp [N2.cs]
  omega
theorem c2_app (a b:List N2):c2 (a ++ b)=c2 a ++ c2 b:=by unfold c2;rw [List.flatMap_append]
theorem c2_one (ys:List N2):∀ u ∈ c2 ys,u.oneCell'=true:=by
 intro u hu
 unfold c2 at hu
 obtain ⟨y,_,hy⟩:=List.mem_flatMap.1 hu
 simp [N2.cs] at hy
 rcases hy with rfl | rfl <;> rfl
theorem c2_at:∀ (ys:List N2) (i j:Nat) (y:N2),ys[i]?=some y→j<2→(c2 ys)[i*2+j]?=y.cs[j]?
 | [],i,j,y,h,_=>by simp at h
 | z :: ys,0,j,y,h,hj=>by
  simp at h
  subst h
  unfold c2
  rw [List.flatMap_cons,Nat.zero_mul,Nat.zero_add,List.getElem?_append_left (by simp [N2.cs];omega)]
 | z :: ys,i+1,j,y,h,hj=>by
  have:=c2_at ys i j y (by simpa using h) hj
  unfold c2 at this ⊢
  rw [List.flatMap_cons,List.getElem?_append_right (by simp [N2.cs];omega)]
  have e:(i+1)*2+j - z.cs.length=i*2+j:=by simp [N2.cs];omega
  rw [e]
  exact this
theorem wp_append_run {P:Program} (w:World) {o:Oper} {a:Act} {K:Act→World→Prop} {Q:Exit→Act→World→Prop} (s x:Operand) (t:TypeId)
  (ho:o.op=.call { callee:=.builtin .append,args:=#[s,x],argTypes:=#[t,t] }) (v xv:Value) (hs:a.eval s=v) (hx:a.eval x=xv)
  (L:Value→World→Prop) (hL:∃ r w',(Builtin.append_ #[t,t] o.type #[v,xv]).run P w=.ok r w'∧L r w') (h:∀ r w',L r w'→K (a.put o.dst r) w'):o.wp P a w K Q:=by
 obtain ⟨r,w',hr,h2⟩:=hL
 unfold Oper.wp execOp
 simp only [ho,resolve,invoke,builtin,Sem.run_bind,Sem.run_pure,Result.andThen_ok,List.map_toArray,List.map_cons,List.map_nil,hs,hx,hr]
 exact h r w' h2
theorem step_append_run {P:Program} (w:World) {ops:Array Oper} {o:Oper} {a:Act} {K:Act→World→Prop} {Q:Exit→Act→World→Prop} {E:Prop} (hgd:o.guard=none) (s x:Operand) (t:TypeId)
  (ho:o.op=.call { callee:=.builtin .append,args:=#[s,x],argTypes:=#[t,t] }) (v xv:Value) (hs:a.eval s=v) (hx:a.eval x=xv)
  (L:Value→World→Prop) (hL:∃ r w',(Builtin.append_ #[t,t] o.type #[v,xv]).run P w=.ok r w'∧L r w') (h:∀ r w',L r w'→K (a.put o.dst r) w') :
  if Region.wanted o (yielded ops a.tmps)=true then Oper.wp P o a w K Q else E:=by
 have hw:Region.wanted o (yielded ops a.tmps)=true:=by simp [Region.wanted,hgd]
 rw [if_pos hw]
 exact wp_append_run w s x t ho v xv hs hx L hL h
theorem elem_is {S T:TypeId} (hu:Tryz.prog.underlying S=some (.slice T)):Tryz.prog.elem S=T:=by
 simp [Program.elem,hu]
theorem grownBy_trans {a b c:World} {r:Option Nat} (h:a.grownBy b r) (k:b.grownBy c r):a.grownBy c r :=
 ⟨k.os.trans h.os,k.tape.trans h.tape,k.output.trans h.output,Nat.le_trans h.size k.size,fun i hi hne=>(k.block i (Nat.lt_of_lt_of_le hi h.size) hne).trans (h.block i hi hne)⟩
theorem numInfo:(Tryz.prog.info? 84).map (fun i=>(i.size,i.bytes))=some (2,40):=by kernel_rfl
theorem numSize (w:World):(sizeOf 84).run Tryz.prog w=.ok 2 w:=by
 have h:=numInfo
 cases hi:Tryz.prog.info? 84 with
 | none=>rw [hi] at h;cases h
 | some i =>
  rw [hi] at h
  simp at h
  simp [sizeOf,typeInfo,hi,h.1]
def z2:List Value:=[.string ⟨#[]⟩,.slice none 0 0]
theorem numZero (w:World):(zeroValue 84).run Tryz.prog w=.ok (.agg #[.string ⟨#[]⟩,.slice none 0 0]) w:=by kernel_rfl
theorem elemN:Tryz.prog.elem 80=84:=elem_is Tryz.underlying80
theorem cut2_from (g n cap k:Nat) (i:Int) (hi:i=(k:Nat)) (hk:k≤n) (hf:n≤cap) :
  ∃ O:Nat,(∀ w,(Instr.slice 80 (.slice (some ⟨g,0,none⟩) n cap) (some (.int .i64 i)) none none).run Tryz.prog w=.ok (.slice (some ⟨g,O,none⟩) (n - k) (cap - k)) w)∧(k<n→O=k*2):=by
 subst hi
 have hu':Tryz.prog.underlying 80=some (.slice (Tryz.prog.elem 80)):=by rw [elemN];exact Tryz.underlying80
 by_cases c:cap=k
 ·refine ⟨0,fun w=>?_,fun q=>by omega⟩
  rw [run_slice_l w 80 _ n cap hu' .i64 (k:Nat) (by omega) (by omega),elemN,numSize w]
  simp [Result.andThen,sliced,c]
 ·refine ⟨k*2,fun w=>?_,fun q=>rfl⟩
  rw [run_slice_l w 80 _ n cap hu' .i64 (k:Nat) (by omega) (by omega),elemN,numSize w]
  have hp:(⟨g,0,none⟩:Addr).add (k*2)=⟨g,0+k*2,none⟩:=Addr.add_mid g 0 (k*2)
  simp [Result.andThen,sliced,c,hp]
theorem cut2_upto (g n cap k:Nat) (i:Int) (hi:i=(k:Nat)) (hk:k≤cap) :
  ∀ w,(Instr.slice 80 (.slice (some ⟨g,0,none⟩) n cap) none (some (.int .i64 i)) none).run Tryz.prog w=.ok (.slice (some ⟨g,0,none⟩) k cap) w:=by
 subst hi
 have hu':Tryz.prog.underlying 80=some (.slice (Tryz.prog.elem 80)):=by rw [elemN];exact Tryz.underlying80
 intro w
 rw [run_slice_h w 80 _ n cap hu' .i64 (k:Nat) (by omega) (by omega),elemN,numSize w]
 have hp:(⟨g,0,none⟩:Addr).add 0=⟨g,0+0,none⟩:=Addr.add_mid g 0 0
 by_cases c:cap=0
 ·simp [Result.andThen,sliced,c]
 ·simp [Result.andThen,sliced,c,hp]
theorem cut2_two (g n cap k m:Nat) (i j:Int) (hi:i=(k:Nat)) (hj:j=(m:Nat)) (hk:k≤m) (hm:m≤cap) (hc:k<cap) :
  ∀ w,(Instr.slice 80 (.slice (some ⟨g,0,none⟩) n cap) (some (.int .i64 i)) (some (.int .i64 j)) none).run Tryz.prog w=.ok (.slice (some ⟨g,k*2,none⟩) (m - k) (cap - k)) w:=by
 subst hi hj
 have hu':Tryz.prog.underlying 80=some (.slice (Tryz.prog.elem 80)):=by rw [elemN];exact Tryz.underlying80
 intro w
 rw [run_slice_lh w 80 _ n cap hu' .i64 .i64 (k:Nat) (m:Nat) (by omega) (by omega) (by omega),elemN,numSize w]
 have hp:(⟨g,0,none⟩:Addr).add (k*2)=⟨g,0+k*2,none⟩:=Addr.add_mid g 0 (k*2)
 simp [Result.andThen,sliced,show cap≠k by omega,hp]
theorem cut2_three (g n cap k m:Nat) (i j x:Int) (hi:i=(k:Nat)) (hj:j=(m:Nat)) (hx:x=(n:Nat)) (hk:k≤m) (hm:m≤n) (hn:n≤cap) :
  ∃ v,∀ w,(Instr.slice 80 (.slice (some ⟨g,0,none⟩) n cap) (some (.int .i64 i)) (some (.int .i64 j)) (some (.int .i64 x))).run Tryz.prog w=.ok v w:=by
 subst hi hj hx
 have hu':Tryz.prog.underlying 80=some (.slice (Tryz.prog.elem 80)):=by rw [elemN];exact Tryz.underlying80
 refine ⟨sliced (some ⟨g,0,none⟩) ((k:Nat):Int).toNat ((m:Nat):Int).toNat ((n:Nat):Int).toNat 2,fun w=>?_⟩
 rw [run_slice_lhm w 80 _ n cap hu' .i64 .i64 .i64 (k:Nat) (m:Nat) (n:Nat) (by omega) (by omega) (by omega) (by omega),elemN,numSize w]
 rfl
theorem clear2 (w:World) (ty:TypeId) (g o c:Nat) (cur:Array Value) (hg:w.heap[g]?=some (.cells cur 84 (0,0))) (hf:o+2≤cur.size) :
  (Builtin.clear_ #[80] ty #[.slice (some ⟨g,o,none⟩) 1 c]).run Tryz.prog w=.ok (.tuple #[]) (w.setRow g (cur.toList.take o ++ z2 ++ cur.toList.drop (o+2)).toArray):=by
 have hst:=run_storeCells_at Tryz.prog g o 84 z2 0 cur w hg (by simpa [z2] using hf) (by intro v hv;simp [z2] at hv;rcases hv with rfl | rfl <;> rfl)
 have hz:(Builtin.zeroCells (Value.agg #[.string ⟨#[]⟩,.slice none 0 0]).cells 1).toList=z2:=by kernel_rfl
 simp only [Nat.add_zero] at hst
 have l2z:z2.length=2:=rfl
 rw [l2z] at hst
 generalize (cur.toList.take o ++ z2 ++ cur.toList.drop (o+2)).toArray=R at *
 simp [Builtin.clear_,run_underlying Tryz.underlying80,numZero,hz,hst]
theorem grownBy_setRow (w:World) (g:Nat) (cs:Array Value):w.grownBy (w.setRow g cs) (some g) :=
 ⟨rfl,rfl,rfl,by simp [World.setRow],fun k _ hk=>by
  have:g≠k:=fun e=>hk (by rw [e])
  simp [World.setRow,Array.getElem?_modify,this]⟩
structure RwL (w:World) (g cap:Nat) (cur:Array Value):Prop where
 blk:w.heap[g]?=some (.cells cur 84 (0,0))
 sz:cur.size=cap*2
 mx:cap≤maxLen
theorem c2_take (ys:List N2) (i:Nat) (h:i≤ys.length):(c2 ys).take (i*2)=c2 (ys.take i):=by
 have e:c2 ys=c2 (ys.take i) ++ c2 (ys.drop i):=by rw [← c2_app,List.take_append_drop]
 have l:(c2 (ys.take i)).length=i*2:=by rw [c2_len];simp;omega
 rw [e,List.take_append_of_le_length (by omega),List.take_of_length_le (by omega)]
theorem c2_drop (ys:List N2) (i:Nat) (h:i≤ys.length):(c2 ys).drop (i*2)=c2 (ys.drop i):=by
 have e:c2 ys=c2 (ys.take i) ++ c2 (ys.drop i):=by rw [← c2_app,List.take_append_drop]
 have l:(c2 (ys.take i)).length=i*2:=by rw [c2_len];simp;omega
 rw [e,List.drop_append_of_le_length (by omega),List.drop_of_length_le (by omega),List.nil_append]
theorem c2_erase (ys:List N2) (i:Nat):c2 (ys.eraseIdx i)=c2 (ys.take i) ++ c2 (ys.drop (i+1)):=by rw [← c2_app,List.eraseIdx_eq_take_drop_succ]
def del1 (cur:Array Value) (i n:Nat) (news:List Value):Array Value:=(cur.toList.take (i*2) ++ news ++ cur.toList.drop (i*2+news.length)).toArray
def del2 (cur:Array Value) (n:Nat):Array Value:=(cur.toList.take ((n - 1)*2) ++ z2 ++ cur.toList.drop ((n - 1)*2+2)).toArray
theorem del_is {cur:Array Value} {ys:List N2} {i n cap:Nat} (hs:cur.size=cap*2) (hl:ys.length=n) (hf:n≤cap) (ht:cur.toList.take (n*2)=c2 ys) (hi:i<n) :
  (del1 cur i n (c2 (ys.drop (i+1)))).size=cap*2∧(del2 (del1 cur i n (c2 (ys.drop (i+1)))) n).size=cap*2∧(del2 (del1 cur i n (c2 (ys.drop (i+1)))) n).toList.take ((n - 1)*2)=c2 (ys.eraseIdx i):=by
 have ln:(c2 (ys.drop (i+1))).length=(n - 1 - i)*2:=by rw [c2_len];simp;omega
 have cl:cur.toList.length=cap*2:=by simpa using hs
 have s1:(del1 cur i n (c2 (ys.drop (i+1)))).size=cap*2:=by unfold del1;simp [ln,hs];omega
 have s2:(del2 (del1 cur i n (c2 (ys.drop (i+1)))) n).size=cap*2:=by unfold del2;simp [s1,z2];omega
 refine ⟨s1,s2,?_⟩
 have e1:cur.toList.take (i*2)=c2 (ys.take i):=by
  rw [← c2_take ys i (by omega),← ht,List.take_take,Nat.min_eq_left (by omega)]
 have l1:(c2 (ys.take i)).length=i*2:=by rw [c2_len];simp;omega
 have e2:(del1 cur i n (c2 (ys.drop (i+1)))).toList.take ((n - 1)*2)=c2 (ys.eraseIdx i):=by
  unfold del1
  rw [List.toList_toArray,e1,c2_erase,List.take_append_of_le_length (by simp [l1,ln];omega),List.take_of_length_le (by simp [l1,ln];omega)]
 have l2:((del1 cur i n (c2 (ys.drop (i+1)))).toList.take ((n - 1)*2)).length=(n - 1)*2:=by simp [s1];omega
 unfold del2
 rw [List.toList_toArray,List.append_assoc,List.take_append_of_le_length (by omega),List.take_of_length_le (by omega),e2]
set_option maxRecDepth 100000 in
set_option maxHeartbeats 4000000 in
theorem DeleteN_any (g n cap i:Nat) (x y:Int) (cur:Array Value) (ys:List N2) (w:World) (h:RwL w g cap cur) (hl:ys.length=n) (hf:n≤cap) (ht:cur.toList.take (n*2)=c2 ys) (hi:i<n) (hn:n≤100000) (hx:x=(i:Nat)) (hy:y=(i+1:Nat)) :
  Calls Tryz.prog 48 #[.slice (some ⟨g,0,none⟩) n cap,.int .i64 x,.int .i64 y] w fun e w'=>e=.returned (.slice (some ⟨g,0,none⟩) (n - 1) cap)∧(∃ cur',RwL w' g cap cur'∧cur'.toList.take ((n - 1)*2)=c2 (ys.eraseIdx i))∧w.grownBy w' (some g):=by
 obtain ⟨v3,h3⟩:=cut2_three g n cap i (i+1) x y (n:Nat) hx hy rfl (by omega) (by omega) hf
 have hA:=cut2_upto g n cap i x hx (by omega)
 obtain ⟨O,hB,hO⟩:=cut2_from g n cap (i+1) y hy (by omega) hf
 have hC:=cut2_two g (n - 1) cap (n - 1) n ((n - 1:Nat):Int) (n:Nat) rfl rfl (by omega) hf (by omega)
 rw [show n - (n - 1)=1 by omega] at hC
 have hxy:(x==y)=false:=by simp;omega
 have D:Hid _:=del_is h.sz hl hf ht hi
 have ln:(c2 (ys.drop (i+1))).length=(n - (i+1))*2:=by rw [c2_len];simp;omega
 have nw:∀ W:World,W.heap[g]?=some (.cells cur 84 (0,0))→∀ j u,(c2 (ys.drop (i+1)))[j]?=some u→W.cell? ((⟨g,O,none⟩:Addr).add j)=some u:=fun W hW j u hu=>by
  have jl:=lt_of_some hu
  have e:O=(i+1)*2:=hO (by omega)
  have hp:(⟨g,O,none⟩:Addr).add j=⟨g,O+j,none⟩:=Addr.add_mid g O j
  rw [hp,e]
  rw [← c2_drop ys (i+1) (by omega),List.getElem?_drop,← ht,List.getElem?_take_of_lt (by omega),Array.getElem?_toList] at hu
  simp [World.cell?,hW,hu]
 obtain ⟨i0,hi0,sz0⟩:∃ i0,Tryz.prog.info? 84=some i0∧i0.size=2:=by
  have q:=numInfo
  cases hi:Tryz.prog.info? 84 with
  | none=>rw [hi] at q;cases q
  | some i0 =>
   rw [hi] at q
   simp at q
   exact ⟨i0,rfl,q.1⟩
 have AP:Hid (∀ (W:World) (ty:TypeId),W.heap[g]?=some (.cells cur 84 (0,0))→(Builtin.append_ #[80,80] ty #[.slice (some ⟨g,0,none⟩) i cap,.slice (some ⟨g,O,none⟩) (n - (i+1)) (cap - (i+1))]).run Tryz.prog W=.ok (.slice (some ⟨g,0,none⟩) (n - 1) cap) (W.setRow g (del1 cur i n (c2 (ys.drop (i+1)))))):=fun W ty hW=>by
  have q:=run_append_room (P:=Tryz.prog) W 80 ty 84 i0 Tryz.underlying80 hi0 g i cap cur hW ⟨g,O,none⟩ (n - (i+1)) (cap - (i+1)) (c2 (ys.drop (i+1))) (by rw [ln,sz0]) (nw W hW) (c2_one _) (by omega) (by rw [sz0,ln,h.sz];omega)
  rw [show i+(n - (i+1))=n - 1 by omega,sz0] at q
  exact q
 have n1:(n:Int)≤100000:=by omega
 have hb:Hid _:=h
 have c1:Hid _:=fun (W:World) (ty:TypeId) (hW:W.heap[g]?=some (.cells (del1 cur i n (c2 (ys.drop (i+1)))) 84 (0,0)))=>clear2 W ty g ((n - 1)*2) (cap - (n - 1)) _ hW (by rw [D.out.1];omega)
 clear nw ln hx hy hO h ht hl
 go_enter Tryz.func48,Tryz.ntmps48
 go_upto_region 5 with fail
 have B0:Hid (w.drew.heap[g]?=some (.cells cur 84 (0,0))):=hb.out.blk
 refine wp_region_held_drew (S:=(fun W=>True)) (by kernel_rfl) trivial (fun hHeld=>?_)
 have g0:Hid (w.grownBy w.drew (some g)):=⟨rfl,rfl,rfl,Nat.le_refl _,fun _ _ _=>rfl⟩
 generalize w.drew=w1 at *
 refine take2 rfl (i:=0) (v:=(.slice (some ⟨g,0,none⟩) n cap)) (d:=20) rfl rfl (by kernel_rfl) (by kernel_rfl) (by kernel_rfl) (fun _ _ _ h=>h) (Or.inl ⟨by rfl,?_⟩) hHeld ?_
 ·(intro W hW;(try dsimp only at hW);go_simp)
 try simp only [Act.put,List.setIfInBounds_toArray,List.set_cons_zero,List.set_cons_succ]
 refine take2 rfl (i:=1) (v:=(.int .i64 x)) (d:=21) rfl rfl (by kernel_rfl) (by kernel_rfl) (by kernel_rfl) (fun _ _ _ h=>h) (Or.inl ⟨by rfl,?_⟩) hHeld ?_
 ·(intro W hW;(try dsimp only at hW);go_simp)
 try simp only [Act.put,List.setIfInBounds_toArray,List.set_cons_zero,List.set_cons_succ]
 refine take2 rfl (i:=2) (v:=(.slice (some ⟨g,0,none⟩) i cap)) (d:=22) rfl rfl (by kernel_rfl) (by kernel_rfl) (by kernel_rfl) (fun _ _ _ h=>h) (Or.inl ⟨by rfl,?_⟩) hHeld ?_
 ·(intro W hW;(try dsimp only at hW);go_simp)
 try simp only [Act.put,List.setIfInBounds_toArray,List.set_cons_zero,List.set_cons_succ]
 refine take2 rfl (i:=3) (v:=(.slice (some ⟨g,0,none⟩) n cap)) (d:=23) rfl rfl (by kernel_rfl) (by kernel_rfl) (by kernel_rfl) (fun _ _ _ h=>h) (Or.inl ⟨by rfl,?_⟩) hHeld ?_
 ·(intro W hW;(try dsimp only at hW);go_simp)
 try simp only [Act.put,List.setIfInBounds_toArray,List.set_cons_zero,List.set_cons_succ]
 refine take2 rfl (i:=4) (v:=(.int .i64 y)) (d:=24) rfl rfl (by kernel_rfl) (by kernel_rfl) (by kernel_rfl) (fun _ _ _ h=>h) (Or.inl ⟨by rfl,?_⟩) hHeld ?_
 ·(intro W hW;(try dsimp only at hW);go_simp)
 try simp only [Act.put,List.setIfInBounds_toArray,List.set_cons_zero,List.set_cons_succ]
 refine take2 rfl (i:=5) (v:=(.slice (some ⟨g,O,none⟩) (n - (i+1)) (cap - (i+1)))) (d:=25) rfl rfl (by kernel_rfl) (by kernel_rfl) (by kernel_rfl) (fun _ _ _ h=>h) (Or.inl ⟨by rfl,?_⟩) hHeld ?_
 ·(intro W hW;(try dsimp only at hW);go_simp)
 try simp only [Act.put,List.setIfInBounds_toArray,List.set_cons_zero,List.set_cons_succ]
 refine wpAnyH_ready (rs:=[6]) (by kernel_rfl) (by simp) ?_
 refine cons2 rfl rfl (fun K9 hK=>?_)
 refine step_append_run w1 (by rfl) (.tmp 22) (.tmp 25) 80 (by rfl) (.slice (some ⟨g,0,none⟩) i cap) (.slice (some ⟨g,O,none⟩) (n - (i+1)) (cap - (i+1))) (by rfl) (by rfl) (fun r w'=>r=.slice (some ⟨g,0,none⟩) (n - 1) cap∧w'=w1.setRow g (del1 cur i n (c2 (ys.drop (i+1))))) ⟨_,_,AP.out w1 _ B0.out,rfl,rfl⟩ ?_
 rintro r w' ⟨rfl,rfl⟩
 (try simp only [Act.put])
 refine hK.out _ _ trivial (fun hX=>?_)
 clear hK K9 hHeld
 have hHeld:=hX
 clear hX
 try simp only [Act.put,List.setIfInBounds_toArray,List.set_cons_zero,List.set_cons_succ]
 refine take2 rfl (i:=7) (v:=(.slice (some ⟨g,0,none⟩) (n - 1) cap)) (d:=0) rfl rfl (by kernel_rfl) (by kernel_rfl) (by kernel_rfl) (fun _ _ _ h=>h) (Or.inl ⟨by rfl,?_⟩) hHeld ?_
 ·(intro W hW;(try dsimp only at hW);go_simp)
 try simp only [Act.put,List.setIfInBounds_toArray,List.set_cons_zero,List.set_cons_succ]
 refine wpAnyH_done (by kernel_rfl) ?_ _
 have B1:Hid _:=setRow_heap w1 g cur (del1 cur i n (c2 (ys.drop (i+1)))) 84 (0,0) B0.out
 have g1:Hid _:=grownBy_setRow w1 g (del1 cur i n (c2 (ys.drop (i+1))))
 generalize w1.setRow g (del1 cur i n (c2 (ys.drop (i+1))))=w2 at *
 have q2:=fun ty=>c1.out w2 ty B1.out
 have B2:Hid _:=setRow_heap w2 g _ (del2 (del1 cur i n (c2 (ys.drop (i+1)))) n) 84 (0,0) B1.out
 have g2:Hid _:=grownBy_setRow w2 g (del2 (del1 cur i n (c2 (ys.drop (i+1)))) n)
 clear c1 B1
 unfold del2 at B2 g2
 generalize w2.setRow g (List.toArray (List.take ((n - 1)*2) (del1 cur i n (c2 (List.drop (i+1) ys))).toList ++ z2 ++ List.drop ((n - 1)*2+2) (del1 cur i n (c2 (List.drop (i+1) ys))).toList))=w3 at *
 have n0:((n - 1:Nat):Int)≤100000:=by omega
 go_wp2
 go_ret
 exact ⟨rfl,⟨_,⟨B2.out,D.out.2.1,hb.out.mx⟩,D.out.2.2⟩,grownBy_trans g0.out (grownBy_trans g1.out g2.out)⟩
end Go.Proofs.YteknljnjcoehoaaGreatDoor
