/- Parts of the proof. -/
import Derived.Test.YteknljnjcoehoaaGreatDoorPm
namespace Go.Proofs.YteknljnjcoehoaaGreatDoor
open Go.RowKit
set_option linter.unusedVariables false
set_option linter.unusedSimpArgs false
theorem ge_ind {C:Tr→Prop} (h:∀ (op nm:ByteArray) (kd:Nat) (n:Int) (pl:Nat) (ts:List Tr),ts.length≤3→(eqB op ⟨#[105,102]⟩=true→ts.length=3)→(eqB op ⟨#[115,117,109]⟩=true→ts.length=2)→(∀ k,k ∈ ts→C k)→C (.nd op nm kd n pl ts)) {m:Nat} {t:Tr} (g:GE m t):C t:=by
 induction g with
 | lit m t hl =>
  obtain ⟨kind,n,a,h1,h5,rfl⟩:=hl
  exact h _ _ _ _ _ [] (by decide) (fun e=>by cases e) (fun e=>by cases e) (fun k hk=>by simp at hk)
 | name m nm a=>exact h _ _ _ _ _ [] (by decide) (fun e=>by cases e) (fun e=>by cases e) (fun k hk=>by simp at hk)
 | bin m op a x y ho hx hy ix iy =>
  have ns:eqB op ⟨#[115,117,109]⟩=false∧eqB op ⟨#[105,102]⟩=false:=by
   have ho:=ho
   simp only [ops12,List.mem_cons,List.not_mem_nil,or_false] at ho
   rcases ho with (rfl | rfl | rfl | rfl | rfl | rfl | rfl | rfl | rfl | rfl | rfl | rfl) | rfl | rfl <;> exact ⟨rfl,rfl⟩
  exact h _ _ _ _ _ [x,y] (by simp) (fun e=>by rw [ns.2] at e;cases e) (fun e=>by rw [ns.1] at e;cases e) (fun k hk=>by simp at hk;rcases hk with rfl | rfl <;> assumption)
 | un m op a x ho hx ix =>
  rcases ho with rfl | rfl | rfl
  all_goals exact h _ _ _ _ _ [x] (by simp) (fun e=>by cases e) (fun e=>by cases e) (fun k hk=>by simp at hk;subst hk;exact ix)
 | at_ m nm a x hx ix=>exact h _ _ _ _ _ [x] (by simp) (fun e=>by cases e) (fun e=>by cases e) (fun k hk=>by simp at hk;subst hk;exact ix)
 | iff m a x y z hx hy hz ix iy iz=>exact h _ _ _ _ _ [x,y,z] (by simp) (fun e=>rfl) (fun e=>by cases e) (fun k hk=>by simp at hk;rcases hk with rfl | rfl | rfl <;> assumption)
 | sum m nm a x y hx hy ix iy=>exact h _ _ _ _ _ [x,y] (by simp) (fun e=>by cases e) (fun e=>rfl) (fun k hk=>by simp at hk;rcases hk with rfl | rfl <;> assumption)
theorem steps_good (S:Nat→Prop) {m:Nat} {t:Tr} (g:GE m t):StC S t:=ge_ind (C:=StC S) (fun op nm kd n pl ts h1 h2 h3 h4=>steps_step S op nm kd n pl ts h1 h2 h3 h4) g
def bloN (op:ByteArray) (i:Nat):Nat:=if eqB op ⟨#[105,102]⟩ then 0 else if eqB op ⟨#[115,117,109]⟩ then 3*i else i
mutual
def depT:Tr→Nat
 | .nd op nm kind n a kids=>depL op 0 1 kids
def depL (op:ByteArray) (i m:Nat):List Tr→Nat
 | []=>m
 | t :: ts=>depL op (i+1) (max m (depT t+bloN op i)) ts
end
theorem blo_le (op:ByteArray) (i:Nat):bloN op i≤3*i:=by
 unfold bloN
 split
 ·omega
 split <;> omega
theorem depL_le (op:ByteArray):∀ (ts:List Tr) (i m B:Nat),i+ts.length≤4→m≤B→(∀ k,k ∈ ts→depT k+9≤B)→depL op i m ts≤B
 | [],i,m,B,hi,hm,hk=>by rw [depL];exact hm
 | t :: ts,i,m,B,hi,hm,hk=>by
  rw [depL]
  have h1:=hk t (by simp)
  have h2:=blo_le op i
  rw [List.length_cons] at hi
  exact depL_le op ts (i+1) _ B (by omega) (by omega) (fun k h=>hk k (by simp [h]))
set_option maxRecDepth 100000 in
set_option maxHeartbeats 8000000 in
theorem below_any (op:ByteArray) (i:Nat) (hi:i≤100) (w:World):Calls Tryz.prog 102 #[.string op,.int .i64 (i:Nat)] w fun e w'=>e=.returned (.int .i64 (bloN op i:Nat))∧w=w':=by
 obtain ⟨R,hR⟩:∃ R,bloN op i=R:=⟨_,rfl⟩
 rw [hR]
 unfold bloN at hR
 have qi:(i:Int)≤100:=by omega
 cases y1:eqB op ⟨#[105,102]⟩ with
 | true =>
  have z1:(op.toList==[105,102])=true:=(eqL _ _).trans y1
  rw [y1] at hR
  have FF:=hid (show 0=R from hR)
  clear hR y1
  go_enter Tryz.func102,Tryz.ntmps102
  go_wp2_with fail
  go_returns
  exact ⟨by rw [← FF.out];rfl,rfl⟩
 | false =>
  have z1:(op.toList==[105,102])=false:=(eqL _ _).trans y1
  rw [y1] at hR
  cases y2:eqB op ⟨#[115,117,109]⟩ with
  | true =>
   have z2:(op.toList==[115,117,109])=true:=(eqL _ _).trans y2
   rw [y2] at hR
   have FF:=hid (show 3*i=R from hR)
   clear hR y1 y2
   have w1':IntKind.i64.wrap (3*(i:Int))=3*(i:Int):=by go_arith
   have FV:=hid (show 3*(i:Int)=(R:Int) from by rw [← FF.out];omega)
   go_enter Tryz.func102,Tryz.ntmps102
   go_wp2_with fail
   go_returns
   exact ⟨by rw [← FV.out];rfl,rfl⟩
  | false =>
   have z2:(op.toList==[115,117,109])=false:=(eqL _ _).trans y2
   rw [y2] at hR
   have FF:=hid (show i=R from hR)
   clear hR y1 y2
   go_enter Tryz.func102,Tryz.ntmps102
   go_wp2_with fail
   go_returns
   exact ⟨by rw [← FF.out];rfl,rfl⟩
def DpC (S:Nat→Prop) (t:Tr):Prop :=
 depT t≤1000000∧∀ (w:World) (v:Value),Nd w S v t.kids→Calls Tryz.prog 51 #[.agg #[.string t.op,.string t.name,.int .i64 (t.kind:Nat),.int .i64 t.n,.int .i64 (t.pl:Nat),v]] w fun e w'=>e=.returned (.int .i64 (depT t:Nat))∧Below w.heap.size w w'
structure DpI (w wr:World) (S:Nat→Prop) (q:Nat) (op nm:ByteArray) (kd:Nat) (n:Int) (pl:Nat) (sv:Value) (ts:List Tr) (i m R:Nat):Prop where
 nd:Nd wr (fun g=>S g∧g<q) sv ts
 bx:B6 wr q (.string op) (.string nm) (.int .i64 (kd:Nat)) (.int .i64 n) (.int .i64 (pl:Nat)) sv
 bl:Below w.heap.size w wr
 mb:m≤2000000
 rs:depL op i m (ts.drop i)=R
set_option maxRecDepth 100000 in
set_option maxHeartbeats 8000000 in
theorem deep_step (S:Nat→Prop) (op nm:ByteArray) (kd:Nat) (n:Int) (pl:Nat) (ts:List Tr) (hl:ts.length≤3) (hk:∀ k,k ∈ ts→DpC S k) (w:World) (v:Value) (hd:Nd w S v ts) :
  Calls Tryz.prog 51 #[.agg #[.string op,.string nm,.int .i64 (kd:Nat),.int .i64 n,.int .i64 (pl:Nat),v]] w fun e w'=>e=.returned (.int .i64 (depT (.nd op nm kd n pl ts):Nat))∧Below w.heap.size w w':=by
 obtain ⟨sa,sc,rfl⟩:=hd.lenY
 have B1:=hid (show Below w.heap.size w (w.alloc (.cells #[.string op,.string nm,.int .i64 (kd:Nat),.int .i64 n,.int .i64 (pl:Nat),.slice sa ts.length sc] 26)) from (Below.refl _ _).alloc (Nat.le_refl _) _)
 have X1:=hid (B6.new w 26 (.string op) (.string nm) (.int .i64 (kd:Nat)) (.int .i64 n) (.int .i64 (pl:Nat)) (.slice sa ts.length sc))
 have N1:=hid (hd.keep (S':=fun g=>S g∧g<w.heap.size) fun g s l=>⟨⟨s,l⟩,B1.out.block g l⟩)
 have HK:=hid hk
 have HL:=hid hl
 have KL9:(ts.length:Int)≤3:=by omega
 obtain ⟨R,hR⟩:∃ R,depT (.nd op nm kd n pl ts)=R:=⟨_,rfl⟩
 have RH:=hid (show depL op 0 1 ts=R from by rw [← hR,depT])
 rw [hR]
 clear hd hk hl hR
 go_enter Tryz.func51,Tryz.ntmps51
 go_upto_region 2 with fail
 generalize World.alloc w _=w1 at *
 have e5:=X1.out.c5
 go_upto_region 3 with fail
 clear e5
 go_loopg [9,3,4,5] (ts.length) (fun g iv mv jv kv wr=>∃ (i m:Nat),i≤ts.length∧g=ts.length - i∧iv=.int .i64 (i:Nat)∧mv=.int .i64 (m:Nat)∧Hid (DpI w wr S w.heap.size op nm kd n pl (.slice sa ts.length sc) ts i m R))
 case atStart=>exact ⟨0,1,Nat.zero_le _,rfl,rfl,rfl,N1.out,X1.out,B1.out,by omega,RH.out⟩
 case round =>
  obtain ⟨i,m,hi,rfl,rfl,rfl,II⟩:=hrel
  by_cases qi:i<ts.length
  ·have qi':(i:Int)<(ts.length:Int):=by omega
   obtain ⟨k,hk⟩:∃ k,ts[i]?=some k:=⟨_,List.getElem?_eq_getElem qi⟩
   obtain ⟨g,c,s3,ea,nc,nk⟩:=II.out.nd.atY i k hk
   obtain ⟨ka,km,kc,rfl⟩:=nk.slice
   injection ea with ea _ ec
   subst ea ec
   have RN:=hid (show depL op (i+1) (max m (depT k+bloN op i)) (ts.drop (i+1))=R from by
    obtain ⟨h1,h2⟩:=List.getElem?_eq_some_iff.1 hk
    rw [← II.out.rs,List.drop_eq_getElem_cons h1,h2,depL])
   obtain ⟨n0,n1,n2,n3,n4,n5⟩:=nc
   have B3:=hid (show Below wr.heap.size wr (wr.alloc (.cells #[.string k.op,.string k.name,.int .i64 (k.kind:Nat),.int .i64 k.n,.int .i64 (k.pl:Nat),.slice ka km kc] 26)) from (Below.refl _ _).alloc (Nat.le_refl _) _)
   have X3:=hid (B6.new wr 26 (.string k.op) (.string k.name) (.int .i64 (k.kind:Nat)) (.int .i64 k.n) (.int .i64 (k.pl:Nat)) (.slice ka km kc))
   have N3:=hid (nk.keep (S':=S) fun g s l=>⟨s.1,B3.out.block g l⟩)
   have M3:=hid (II.out.nd.gwY B3.out)
   have Y3:=hid (II.out.bx.next B3.out)
   have A3:=hid (nextB II.out.bl B3.out)
   have MB:=hid II.out.mb
   have KK:=hid (HK.out k (List.mem_of_getElem? hk))
   have KB:=hid (below_any op i (by have:=HL.out;omega))
   have BB:=hid (show bloN op i≤9 from by have:=blo_le op i;have:=HL.out;omega)
   clear nk hk II
   go_upto_region 5 with fail
   clear n0 n1 n2 n3 n4 n5
   generalize World.alloc wr _=w3 at *
   generalize wr.heap.size=xb at *
   refine wp_region_held_drew (S:=fun W=>Below w3.heap.size w3 W) (by kernel_rfl) (Below.refl _ _).drew (fun hHeld=>?_)
   have D3:=hid (show Below w3.heap.size w3 w3.drew from (Below.refl _ _).drew)
   have KC:=hid (KK.out.2 w3.drew _ (N3.out.gwY D3.out))
   have KD:=hid KK.out.1
   generalize w3.drew=wz at *
   refine tk 0 (.int .i64 (m:Nat)) 14 rfl rfl rfl (by kernel_rfl) (fun _ _ _ h=>h) (by rfl) hHeld ?_ ?_
   ·(intro W hW;(try dsimp only at hW);go_simp)
   try simp only [Act.put,List.setIfInBounds_toArray,List.set_cons_zero,List.set_cons_succ]
   refine tk 1 (.agg #[.string k.op,.string k.name,.int .i64 (k.kind:Nat),.int .i64 k.n,.int .i64 (k.pl:Nat),.slice ka km kc]) 15 rfl rfl rfl (by kernel_rfl) (fun _ _ _ h=>h) (by rfl) hHeld ?_ ?_
   ·(intro W hW;(try dsimp only at hW);obtain ⟨x0,x1,x2,x3,x4,x5,xz⟩:=X3.out.next hW;go_simp)
   try simp only [Act.put,List.setIfInBounds_toArray,List.set_cons_zero,List.set_cons_succ]
   refine tk 3 (.pointer (some ⟨w.heap.size,0,none⟩)) 17 rfl rfl rfl (by kernel_rfl) (fun _ _ _ h=>h) (by rfl) hHeld ?_ ?_
   ·(intro W hW;(try dsimp only at hW);go_simp)
   try simp only [Act.put,List.setIfInBounds_toArray,List.set_cons_zero,List.set_cons_succ]
   refine tk 4 (.string op) 18 rfl rfl rfl (by kernel_rfl) (fun _ _ _ h=>h) (by rfl) hHeld ?_ ?_
   ·(intro W hW;(try dsimp only at hW);obtain ⟨x0,x1,x2,x3,x4,x5,xz⟩:=Y3.out.next hW;go_simp)
   try simp only [Act.put,List.setIfInBounds_toArray,List.set_cons_zero,List.set_cons_succ]
   refine tk 5 (.int .i64 (i:Nat)) 19 rfl rfl rfl (by kernel_rfl) (fun _ _ _ h=>h) (by rfl) hHeld ?_ ?_
   ·(intro W hW;(try dsimp only at hW);go_simp)
   try simp only [Act.put,List.setIfInBounds_toArray,List.set_cons_zero,List.set_cons_succ]
   refine wpAnyH_ready (rs:=[2]) (by kernel_rfl) (by simp) ?_
   refine cons2 rfl rfl (fun K9 hK=>?_)
   go_simp
   refine Calls.mono KC.out ?_
   rintro e w5 ⟨rfl,b5⟩
   have B5:=hid (nextB D3.out b5)
   clear b5
   go_wp2_with fail
   refine hK.out _ _ B5.out (fun hX=>?_)
   clear hK K9 hHeld
   have hHeld:=hX
   clear hX
   try simp only [Act.put,List.setIfInBounds_toArray,List.set_cons_zero,List.set_cons_succ]
   refine wpAnyH_ready (rs:=[6]) (by kernel_rfl) (by simp) ?_
   refine cons2 rfl rfl (fun K9 hK=>?_)
   go_simp
   refine Calls.mono (KB.out _) ?_
   rintro e w6 ⟨rfl,e6⟩
   obtain rfl:=e6
   go_wp2_with fail
   refine hK.out _ _ B5.out (fun hX=>?_)
   clear hK K9 hHeld
   have hHeld:=hX
   clear hX
   try simp only [Act.put,List.setIfInBounds_toArray,List.set_cons_zero,List.set_cons_succ]
   have M5:=hid (M3.out.gwY B5.out)
   have Y5:=hid (Y3.out.next B5.out)
   have A5:=hid (nextB A3.out B5.out)
   have kb:=KD.out
   have bb:=BB.out
   have mb:=MB.out
   clear KD BB MB KC KB KK N3 X3
   generalize depT k=x at *
   generalize bloN op i=y at *
   have w1':IntKind.i64.wrap ((x:Int)+(y:Int))=(x:Int)+(y:Int):=by go_arith
   refine tk 7 (.int .i64 ((x:Int)+(y:Int))) 21 rfl rfl rfl (by kernel_rfl) (fun _ _ _ h=>h) (by rfl) hHeld ?_ ?_
   ·(intro W hW;(try dsimp only at hW);go_simp)
   try simp only [Act.put,List.setIfInBounds_toArray,List.set_cons_zero,List.set_cons_succ]
   refine tk 8 (.int .i64 (max (m:Int) ((x:Int)+(y:Int)))) 22 rfl rfl rfl (by kernel_rfl) (fun _ _ _ h=>h) (by rfl) hHeld ?_ ?_
   ·(intro W hW;(try dsimp only at hW);go_simp)
   try simp only [Act.put,List.setIfInBounds_toArray,List.set_cons_zero,List.set_cons_succ]
   refine tk 9 (.int .i64 (max (m:Int) ((x:Int)+(y:Int)))) 3 rfl rfl rfl (by kernel_rfl) (fun _ _ _ h=>h) (by rfl) hHeld ?_ ?_
   ·(intro W hW;(try dsimp only at hW);go_simp)
   try simp only [Act.put,List.setIfInBounds_toArray,List.set_cons_zero,List.set_cons_succ]
   refine wpAnyH_done (by kernel_rfl) ?_ _
   go_wp2_with fail
   go_roundg (ts.length - (i+1))
   case measure=>omega
   case rel=>exact ⟨i+1,max m (x+y),by omega,rfl,by rw [Int.natCast_add];rfl,by congr 1;omega,M5.out,Y5.out,A5.out,by omega,RN.out⟩
  ·have qi':¬ (i:Int)<(ts.length:Int):=by omega
   have FF:=hid (show m=R from by rw [← II.out.rs,List.drop_eq_nil_of_le (by omega),depL])
   go_wp2_with fail
   go_returns
   exact ⟨by rw [FF.out];rfl,II.out.bl⟩
theorem deep_good (S:Nat→Prop) {m:Nat} {t:Tr} (g:GE m t):depT t≤10*nodT t∧(nodT t≤90000→DpC S t) :=
 ge_ind (C:=fun t=>depT t≤10*nodT t∧(nodT t≤90000→DpC S t)) (fun op nm kd n pl ts h1 h2 h3 h4=>by
  have e:depT (.nd op nm kd n pl ts)≤10*nodT (.nd op nm kd n pl ts):=by
   rw [depT]
   refine depL_le op ts 0 1 _ (by omega) (by rw [nodT];omega) (fun k hk=>?_)
   have:=(h4 k hk).1
   have:=nod_kid (t:=.nd op nm kd n pl ts) hk
   omega
  exact ⟨e,fun hn=>⟨by omega,fun w v hd=>deep_step S op nm kd n pl ts h1 (fun k hk=>(h4 k hk).2 (by have:=nod_kid (t:=.nd op nm kd n pl ts) hk;omega)) w v hd⟩⟩) g
end Go.Proofs.YteknljnjcoehoaaGreatDoor
