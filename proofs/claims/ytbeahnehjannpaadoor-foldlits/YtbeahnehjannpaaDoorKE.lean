/- Parts of the proof. -/
import Derived.Test.YtbeahnehjannpaaDoorKD
import Derived.Test.YtbeahnehjannpaaDoorKU
import Derived.BigQuiet
import Derived.Deep.RegionHeld3
import Derived.Test.YtbeahnehjannpaaDoorKC
namespace Go.Proofs.YtbeahnehjannpaaDoor
open Go.RowKit
set_option linter.unusedVariables false
set_option linter.unusedSimpArgs false
def bd (o:Option Nat):Int:=match o with | none=>-1 | some a=>(a:Int)
structure Pr (w:World) (p b c:Nat) (ws:List Wo) (d k:Nat) (o:Option Nat) (e:Bool):Prop where
 c0:w.cell? ⟨p,0,none⟩=some (.slice (some ⟨b,0,none⟩) ws.length c)
 c1:w.cell? ⟨p,1,none⟩=some (.int .i64 (k:Nat))
 c2:w.cell? ⟨p,2,none⟩=some (.int .i64 (bd o))
 c3:w.cell? ⟨p,3,none⟩=some (.bool e)
 c4:w.cell? ⟨p,4,none⟩=some (.int .i64 (d:Nat))
 fz:∀ i,w.frozen? ⟨p,i,none⟩=false
 w0:∀ i x,ws[i]?=some x→w.cell? ⟨b,i*4,none⟩=some (.int .i64 (x.k:Nat))
 w1:∀ i x,ws[i]?=some x→w.cell? ⟨b,i*4+1,none⟩=some (.string x.t)
 w2:∀ i x,ws[i]?=some x→w.cell? ⟨b,i*4+2,none⟩=some (.int .i64 (x.n:Nat))
 w3:∀ i x,ws[i]?=some x→w.cell? ⟨b,i*4+3,none⟩=some (.int .i64 (x.a:Nat))
 ne:p≠b
 lt:k<ws.length
 len:ws.length≤9000
 last:∀ x,ws[ws.length - 1]?=some x→x.k=0∧x.t=⟨#[]⟩
theorem Pr.pl {w:World} {p b c:Nat} {ws:List Wo} {d k:Nat} {o:Option Nat} {e:Bool} (h:Pr w p b c ws d k o e):p<w.heap.size:=World.block_lt_of_cell? _ _ h.c0
theorem Pr.bl {w:World} {p b c:Nat} {ws:List Wo} {d k:Nat} {o:Option Nat} {e:Bool} (h:Pr w p b c ws d k o e):b<w.heap.size:=by
 obtain ⟨x,hx⟩:∃ x,ws[k]?=some x:=⟨_,List.getElem?_eq_getElem h.lt⟩
 exact World.block_lt_of_cell? _ _ (h.w0 k x hx)
theorem Pr.keep {w w':World} {p b c:Nat} {ws:List Wo} {d k:Nat} {o:Option Nat} {e:Bool} (h:Pr w p b c ws d k o e) (hp:w'.heap[p]?=w.heap[p]?) (hb:w'.heap[b]?=w.heap[b]?):Pr w' p b c ws d k o e:=by
 have e:∀ i,w'.cell? ⟨p,i,none⟩=w.cell? ⟨p,i,none⟩:=fun i=>World.cell?_of_block (a:=⟨p,i,none⟩) hp
 have f:∀ i,w'.cell? ⟨b,i,none⟩=w.cell? ⟨b,i,none⟩:=fun i=>World.cell?_of_block (a:=⟨b,i,none⟩) hb
 refine ⟨by rw [e];exact h.c0,by rw [e];exact h.c1,by rw [e];exact h.c2,by rw [e];exact h.c3,by rw [e];exact h.c4,fun i=>by rw [World.frozen?_of_block (a:=⟨p,i,none⟩) hp];exact h.fz i,?_,?_,?_,?_,h.ne,h.lt,h.len,h.last⟩
 ·intro i x q;rw [f];exact h.w0 i x q
 ·intro i x q;rw [f];exact h.w1 i x q
 ·intro i x q;rw [f];exact h.w2 i x q
 ·intro i x q;rw [f];exact h.w3 i x q
theorem Pr.next {w w':World} {p b c:Nat} {ws:List Wo} {d k:Nat} {o:Option Nat} {e:Bool} (h:Pr w p b c ws d k o e) (hb:Below w.heap.size w w'):Pr w' p b c ws d k o e:=h.keep (hb.block p h.pl) (hb.block b h.bl)
theorem Pr.put {w:World} {p b c:Nat} {ws:List Wo} {d k:Nat} {o:Option Nat} {e:Bool} (h:Pr w p b c ws d k o e) {q i:Nat} (h1:p≠q) (h2:b≠q) (u:Value):Pr (w.setCell ⟨q,i,none⟩ u) p b c ws d k o e:=h.keep (Below.heap_setCell w ⟨q,i,none⟩ u p h1) (Below.heap_setCell w ⟨q,i,none⟩ u b h2)
theorem Pr.set {w:World} {p b c:Nat} {ws:List Wo} {d k:Nat} {o:Option Nat} {e:Bool} (h:Pr w p b c ws d k o e) (i:Nat) (u:Value) (d' k':Nat) (o':Option Nat) (e':Bool) (hi:i<5) (h0:i≠0)
  (h1:if i=1 then u=.int .i64 (k':Nat) else k'=k) (h2:if i=2 then u=.int .i64 (bd o') else o'=o) (h3:if i=3 then u=.bool e' else e'=e) (h4:if i=4 then u=.int .i64 (d':Nat) else d'=d) (hk:k'<ws.length):Pr (w.setCell ⟨p,i,none⟩ u) p b c ws d' k' o' e':=by
 have f:∀ j,(w.setCell ⟨p,i,none⟩ u).cell? ⟨b,j,none⟩=w.cell? ⟨b,j,none⟩:=fun j=>cell_ne fun e=>h.ne e.1
 have g:∀ j,j≠i→(w.setCell ⟨p,i,none⟩ u).cell? ⟨p,j,none⟩=w.cell? ⟨p,j,none⟩:=fun j q=>cell_ne fun e=>q e.2.symm
 have s:∀ j v,w.cell? ⟨p,j,none⟩=some v→j=i→(w.setCell ⟨p,i,none⟩ u).cell? ⟨p,j,none⟩=some u:=fun j v q e=>by subst e;exact cell_eq q
 refine ⟨by rw [g 0 (Ne.symm h0)];exact h.c0,?_,?_,?_,?_,fun j=>by simpa using h.fz j,?_,?_,?_,?_,h.ne,hk,h.len,h.last⟩
 ·by_cases q:i=1
  ·rw [if_pos q] at h1;rw [s 1 _ h.c1 q.symm,h1]
  ·rw [if_neg q] at h1;rw [g 1 (Ne.symm q),h1];exact h.c1
 ·by_cases q:i=2
  ·rw [if_pos q] at h2;rw [s 2 _ h.c2 q.symm,h2]
  ·rw [if_neg q] at h2;rw [g 2 (Ne.symm q),h2];exact h.c2
 ·by_cases q:i=3
  ·rw [if_pos q] at h3;rw [s 3 _ h.c3 q.symm,h3]
  ·rw [if_neg q] at h3;rw [g 3 (Ne.symm q),h3];exact h.c3
 ·by_cases q:i=4
  ·rw [if_pos q] at h4;rw [s 4 _ h.c4 q.symm,h4]
  ·rw [if_neg q] at h4;rw [g 4 (Ne.symm q),h4];exact h.c4
 ·intro i x q;rw [f];exact h.w0 i x q
 ·intro i x q;rw [f];exact h.w1 i x q
 ·intro i x q;rw [f];exact h.w2 i x q
 ·intro i x q;rw [f];exact h.w3 i x q
theorem Pr.step {w:World} {p b c:Nat} {ws:List Wo} {d k:Nat} {o:Option Nat} {e:Bool} (h:Pr w p b c ws d k o e) (hk:k+1<ws.length):Pr (w.setCell ⟨p,1,none⟩ (.int .i64 ((k:Int)+1))) p b c ws d (k+1) o e :=
 h.set 1 _ d (k+1) o e (by decide) (by decide) rfl rfl rfl rfl hk
theorem Pr.bad {w:World} {p b c:Nat} {ws:List Wo} {d k:Nat} {o:Option Nat} {e:Bool} (h:Pr w p b c ws d k o e) (a:Nat):Pr (w.setCell ⟨p,2,none⟩ (.int .i64 (a:Nat))) p b c ws d k (some a) e :=
 h.set 2 _ d k (some a) e (by decide) (by decide) rfl rfl rfl rfl h.lt
theorem Pr.deep {w:World} {p b c:Nat} {ws:List Wo} {d k:Nat} {o:Option Nat} {e:Bool} (h:Pr w p b c ws d k o e):Pr (w.setCell ⟨p,3,none⟩ (.bool true)) p b c ws d k o true :=
 h.set 3 _ d k o true (by decide) (by decide) rfl rfl rfl rfl h.lt
theorem Pr.dep {w:World} {p b c:Nat} {ws:List Wo} {d k:Nat} {o:Option Nat} {e:Bool} (h:Pr w p b c ws d k o e) (d':Nat) (v:Int) (hv:v=(d':Nat)):Pr (w.setCell ⟨p,4,none⟩ (.int .i64 v)) p b c ws d' k o e:=by
 subst hv
 exact h.set 4 _ d' k o e (by decide) (by decide) rfl rfl rfl rfl h.lt
theorem Pr.cur {w:World} {p b c:Nat} {ws:List Wo} {d k:Nat} {o:Option Nat} {e:Bool} (h:Pr w p b c ws d k o e):∃ x,Cur w b ws k x:=by
 have e:=List.getElem?_eq_getElem h.lt
 exact ⟨_,e,List.drop_eq_getElem_cons h.lt,h.w0 _ _ e,h.w1 _ _ e,h.w2 _ _ e,h.w3 _ _ e⟩
theorem Pr.more {w:World} {p b c:Nat} {ws:List Wo} {d k:Nat} {o:Option Nat} {e:Bool} {x:Wo} (h:Pr w p b c ws d k o e) (hx:ws[k]?=some x) (hn:x.k≠0):k+1<ws.length:=by
 rcases Nat.lt_or_ge (k+1) ws.length with q | q
 ·exact q
 ·have:=h.lt
  have e:k=ws.length - 1:=by omega
  exact absurd (h.last x (by rw [← e];exact hx)).1 hn
structure Sw (w:World) (p b c:Nat) (ws:List Wo) (d:Nat) (s:Sp):Prop where
 ex:∃ k,s.l=ws.drop k∧Pr w p b c ws d k s.b s.e
theorem Sw.pl {w:World} {p b c:Nat} {ws:List Wo} {d:Nat} {s:Sp} (h:Sw w p b c ws d s):p<w.heap.size:=by obtain ⟨k,_,q⟩:=h.ex;exact q.pl
theorem Sw.bl {w:World} {p b c:Nat} {ws:List Wo} {d:Nat} {s:Sp} (h:Sw w p b c ws d s):b<w.heap.size:=by obtain ⟨k,_,q⟩:=h.ex;exact q.bl
theorem Sw.next {w w':World} {p b c:Nat} {ws:List Wo} {d:Nat} {s:Sp} (h:Sw w p b c ws d s) (hb:Below w.heap.size w w'):Sw w' p b c ws d s:=by obtain ⟨k,e,q⟩:=h.ex;exact ⟨k,e,q.next hb⟩
theorem Sw.put {w:World} {p b c:Nat} {ws:List Wo} {d:Nat} {s:Sp} (h:Sw w p b c ws d s) {q i:Nat} (h1:p≠q) (h2:b≠q) (u:Value):Sw (w.setCell ⟨q,i,none⟩ u) p b c ws d s:=by obtain ⟨k,e,x⟩:=h.ex;exact ⟨k,e,x.put h1 h2 u⟩
theorem Sw.put6 {w:World} {p b c:Nat} {ws:List Wo} {d:Nat} {s:Sp} (h:Sw w p b c ws d s) {q:Nat} (h1:p≠q) (h2:b≠q) (v0 v1 v2 v3 v4 v5:Value):Sw ((((((w.setCell ⟨q,0,none⟩ v0).setCell ⟨q,1,none⟩ v1).setCell ⟨q,2,none⟩ v2).setCell ⟨q,3,none⟩ v3).setCell ⟨q,4,none⟩ v4).setCell ⟨q,5,none⟩ v5) p b c ws d s :=
 (((((h.put h1 h2 v0).put h1 h2 v1).put h1 h2 v2).put h1 h2 v3).put h1 h2 v4).put h1 h2 v5
theorem Sw.len {w:World} {p b c:Nat} {ws:List Wo} {d:Nat} {s:Sp} (h:Sw w p b c ws d s):0<s.l.length∧s.l.length≤9000:=by
 obtain ⟨k,e,q⟩:=h.ex
 rw [e,List.length_drop]
 have:=q.lt
 have:=q.len
 omega
theorem fd0 (a b c d:Value) (w:World):(Instr.field 58 (.agg #[a,b,c,d]) 0).run Tryd.prog w=.ok a w:=by kernel_rfl
theorem fd1 (a b c d:Value) (w:World):(Instr.field 58 (.agg #[a,b,c,d]) 1).run Tryd.prog w=.ok b w:=by kernel_rfl
theorem fd3 (a b c d:Value) (w:World):(Instr.field 58 (.agg #[a,b,c,d]) 3).run Tryd.prog w=.ok d w:=by kernel_rfl
set_option maxRecDepth 100000 in
set_option maxHeartbeats 1000000 in
theorem rw_any {w:World} {p b c:Nat} {ws:List Wo} {d:Nat} {s:Sp} (h:Sw w p b c ws d s) :
  Calls Tryd.prog 40 #[.pointer (some ⟨p,0,none⟩)] w fun e w'=>e=.returned (.agg #[.int .i64 (kw s.l:Nat),.string (tw s.l),.int .i64 (nw s.l:Nat),.int .i64 (aw s.l:Nat)])∧Below w.heap.size w w':=by
 obtain ⟨k,el,h⟩:=h.ex
 obtain ⟨x,cu⟩:=h.cur
 rw [el,cu.dr]
 show Calls _ _ _ _ fun e w'=>e=.returned (.agg #[.int .i64 (x.k:Nat),.string x.t,.int .i64 (x.n:Nat),.int .i64 (x.a:Nat)])∧Below w.heap.size w w'
 have rp:=h.pl
 have rb:=h.bl
 have pb:=h.ne
 have HS0:Hid (Below w.heap.size w (w.alloc (.cells #[.int .i64 0,.string ⟨#[]⟩,.int .i64 0,.int .i64 0] 58))):=(Below.refl _ _).alloc (Nat.le_refl _) _
 have HX:=hid (X4.new w 58 (.int .i64 0) (.string ⟨#[]⟩) (.int .i64 0) (.int .i64 0))
 have HP:=hid (h.next HS0.out)
 have XA:=hid cu.at_
 have l1:(k:Int)<(ws.length:Int):=by have:=h.lt;omega
 have l2:ws.length≤9000:=h.len
 clear h cu el
 go_enter Tryd.func40,Tryd.ntmps40
 go_upto_region 1 with fail
 generalize World.alloc w _=w1 at *
 have c0:=HP.out.c0
 have c1:=HP.out.c1
 have d0:=HP.out.w0 _ _ XA.out
 have d1:=HP.out.w1 _ _ XA.out
 have d2:=HP.out.w2 _ _ XA.out
 have d3:=HP.out.w3 _ _ XA.out
 obtain ⟨xk,xt,xn,xa⟩:=x
 simp only at d0 d1 d2 d3 ⊢
 have x0:=HX.out.c0
 have x1:=HX.out.c1
 have x2:=HX.out.c2
 have x3:=HX.out.c3
 have HZ:=hid (HS0.out.trans (Below.refl _ _).drew)
 replace HX:=hid (HX.out.next (Below.refl _ _).drew)
 clear HP HS0
 have gp:w.heap.size≠p:=by omega
 have gb:w.heap.size≠b:=by omega
 refine wp_region_held_drew (S:=(fun W=>W.cell? ⟨p,0,none⟩=some (.slice (some ⟨b,0,none⟩) ws.length c)∧W.cell? ⟨p,1,none⟩=some (.int .i64 (k:Nat))∧W.cell? ⟨b,k*4,none⟩=some (.int .i64 (xk:Nat))∧W.cell? ⟨b,k*4+1,none⟩=some (.string xt)∧W.cell? ⟨b,k*4+2,none⟩=some (.int .i64 (xn:Nat))∧W.cell? ⟨b,k*4+3,none⟩=some (.int .i64 (xa:Nat)))) (by kernel_rfl) ⟨c0,c1,d0,d1,d2,d3⟩ (fun hHeld=>?_)
 generalize w1.drew=wz at *
 clear x0 x1 x2 x3
 obtain ⟨x0,x1,x2,x3,xz,_,_⟩:=HX.out
 refine take2 rfl (i:=0) (v:=(.pointer (some ⟨p,0,none⟩))) (d:=3) rfl rfl (by kernel_rfl) (by kernel_rfl) (by kernel_rfl) (fun _ _ _ h=>h) (Or.inl ⟨by rfl,?_⟩) hHeld ?_
 ·(intro W hW;(try dsimp only at hW);go_simp)
 try simp only [Act.put,List.setIfInBounds_toArray,List.set_cons_zero,List.set_cons_succ]
 refine take2 rfl (i:=1) (v:=(.pointer (some ⟨p,0,none⟩))) (d:=4) rfl rfl (by kernel_rfl) (by kernel_rfl) (by kernel_rfl) (fun _ _ _ h=>h) (Or.inl ⟨by rfl,?_⟩) hHeld ?_
 ·(intro W hW;(try dsimp only at hW);go_simp)
 try simp only [Act.put,List.setIfInBounds_toArray,List.set_cons_zero,List.set_cons_succ]
 refine take2 rfl (i:=2) (v:=(.pointer (some ⟨p,0,none⟩))) (d:=5) rfl rfl (by kernel_rfl) (by kernel_rfl) (by kernel_rfl) (fun _ _ _ h=>h) (Or.inl ⟨by rfl,?_⟩) hHeld ?_
 ·(intro W hW;(try dsimp only at hW);go_simp)
 try simp only [Act.put,List.setIfInBounds_toArray,List.set_cons_zero,List.set_cons_succ]
 refine take2 rfl (i:=3) (v:=(.slice (some ⟨b,0,none⟩) ws.length c)) (d:=6) rfl rfl (by kernel_rfl) (by kernel_rfl) (by kernel_rfl) (fun _ _ _ h=>h) (Or.inl ⟨by rfl,?_⟩) hHeld ?_
 ·(intro W hW;(try dsimp only at hW);go_simp)
 try simp only [Act.put,List.setIfInBounds_toArray,List.set_cons_zero,List.set_cons_succ]
 refine take2 rfl (i:=4) (v:=(.pointer (some ⟨p,0,none⟩))) (d:=7) rfl rfl (by kernel_rfl) (by kernel_rfl) (by kernel_rfl) (fun _ _ _ h=>h) (Or.inl ⟨by rfl,?_⟩) hHeld ?_
 ·(intro W hW;(try dsimp only at hW);go_simp)
 try simp only [Act.put,List.setIfInBounds_toArray,List.set_cons_zero,List.set_cons_succ]
 refine take2 rfl (i:=5) (v:=(.pointer (some ⟨p,0,none⟩))) (d:=8) rfl rfl (by kernel_rfl) (by kernel_rfl) (by kernel_rfl) (fun _ _ _ h=>h) (Or.inl ⟨by rfl,?_⟩) hHeld ?_
 ·(intro W hW;(try dsimp only at hW);go_simp)
 try simp only [Act.put,List.setIfInBounds_toArray,List.set_cons_zero,List.set_cons_succ]
 refine take2 rfl (i:=6) (v:=(.pointer (some ⟨p,1,none⟩))) (d:=9) rfl rfl (by kernel_rfl) (by kernel_rfl) (by kernel_rfl) (fun _ _ _ h=>h) (Or.inl ⟨by rfl,?_⟩) hHeld ?_
 ·(intro W hW;(try dsimp only at hW);go_simp)
 try simp only [Act.put,List.setIfInBounds_toArray,List.set_cons_zero,List.set_cons_succ]
 refine take2 rfl (i:=7) (v:=(.int .i64 (k:Nat))) (d:=10) rfl rfl (by kernel_rfl) (by kernel_rfl) (by kernel_rfl) (fun _ _ _ h=>h) (Or.inl ⟨by rfl,?_⟩) hHeld ?_
 ·(intro W hW;(try dsimp only at hW);go_simp)
 try simp only [Act.put,List.setIfInBounds_toArray,List.set_cons_zero,List.set_cons_succ]
 refine take2 rfl (i:=8) (v:=(.pointer (some ⟨b,k*4,none⟩))) (d:=11) rfl rfl (by kernel_rfl) (by kernel_rfl) (by kernel_rfl) (fun _ _ _ h=>h) (Or.inl ⟨by rfl,?_⟩) hHeld ?_
 ·(intro W hW;(try dsimp only at hW);go_simp)
 try simp only [Act.put,List.setIfInBounds_toArray,List.set_cons_zero,List.set_cons_succ]
 refine take2 rfl (i:=9) (v:=(.agg #[.int .i64 (xk:Nat),.string xt,.int .i64 (xn:Nat),.int .i64 (xa:Nat)])) (d:=12) rfl rfl (by kernel_rfl) (by kernel_rfl) (by kernel_rfl) (fun _ _ _ h=>h) (Or.inl ⟨by rfl,?_⟩) hHeld ?_
 ·(intro W hW;(try dsimp only at hW);go_simp)
 try simp only [Act.put,List.setIfInBounds_toArray,List.set_cons_zero,List.set_cons_succ]
 refine wpAnyH_ready (rs:=[10]) (by kernel_rfl) (by simp) ?_
 refine cons2 rfl rfl (fun K9 hK=>?_)
 go_simp
 refine hK.out _ _ (by obtain ⟨q0,q1,q2,q3,q4,q5⟩:=hHeld;exact ⟨(cell_ne (by omega)).trans ((cell_ne (by omega)).trans ((cell_ne (by omega)).trans ((cell_ne (by omega)).trans q0))),(cell_ne (by omega)).trans ((cell_ne (by omega)).trans ((cell_ne (by omega)).trans ((cell_ne (by omega)).trans q1))),(cell_ne (by omega)).trans ((cell_ne (by omega)).trans ((cell_ne (by omega)).trans ((cell_ne (by omega)).trans q2))),(cell_ne (by omega)).trans ((cell_ne (by omega)).trans ((cell_ne (by omega)).trans ((cell_ne (by omega)).trans q3))),(cell_ne (by omega)).trans ((cell_ne (by omega)).trans ((cell_ne (by omega)).trans ((cell_ne (by omega)).trans q4))),(cell_ne (by omega)).trans ((cell_ne (by omega)).trans ((cell_ne (by omega)).trans ((cell_ne (by omega)).trans q5)))⟩) (fun hX=>?_)
 clear hK K9 hHeld
 try simp only [Act.put,List.setIfInBounds_toArray,List.set_cons_zero,List.set_cons_succ]
 refine wpAnyH_done (by kernel_rfl) ?_ _
 replace HX:=hid (HX.out.set (.int .i64 (xk:Nat)) (.string xt) (.int .i64 (xn:Nat)) (.int .i64 (xa:Nat)))
 go_wp2
 generalize World.setCell _ ⟨w.heap.size,3,none⟩ _=w6 at *
 obtain ⟨f0,f1,f2,f3,f4,f5⟩:=HX.out
 exact bodyPost_ret (v:=.agg #[.int .i64 (xk:Nat),.string xt,.int .i64 (xn:Nat),.int .i64 (xa:Nat)]) (by simp [results,Tryd.results40,go_sem,f0,f1,f2,f3]) rfl ⟨rfl,HX.out.bl⟩
theorem Sw.mv {w:World} {p b c:Nat} {ws:List Wo} {d:Nat} {s:Sp} (h:Sw w p b c ws d s) (hk:kw s.l≠0):∃ k:Nat,(k:Int)≤9000∧s.l=ws.drop k∧Pr w p b c ws d k s.b s.e∧k+1<ws.length∧s.l.tail=ws.drop (k+1):=by
 obtain ⟨k,e,q⟩:=h.ex
 obtain ⟨x,cu⟩:=q.cur
 have hx:x.k≠0:=by rw [e,cu.dr] at hk;exact hk
 have:=q.lt
 have:=q.len
 exact ⟨k,by omega,e,q,q.more cu.at_ hx,by rw [e,cu.dr];rfl⟩
set_option maxRecDepth 100000 in
set_option maxHeartbeats 1000000 in
theorem rfail_any {w:World} {p b c:Nat} {ws:List Wo} {d:Nat} {s:Sp} (h:Sw w p b c ws d s) :
  Calls Tryd.prog 49 #[.pointer (some ⟨p,0,none⟩)] w fun e w'=>e=.returned (.tuple #[])∧Sw w' p b c ws d s.fail∧Gr w w' p:=by
 obtain ⟨l,o,f⟩:=s
 have HS:=hid h
 have WC:=hid (rw_any h)
 have f0:=fd0
 have f1:=fd1
 have f3:=fd3
 obtain ⟨k,el,q⟩:=h.ex
 cases o with
 | some a =>
  have c2:w.cell? ⟨p,2,none⟩=some (.int .i64 (a:Nat)):=q.c2
  have z:¬ (a:Int)<0:=by omega
  clear h q el
  go_enter Tryd.func49,Tryd.ntmps49
  go_wp2
  go_returns
  exact ⟨rfl,HS.out,Gr.refl _ _⟩
 | none =>
  have c2:w.cell? ⟨p,2,none⟩=some (.int .i64 (-1)):=q.c2
  clear h q el
  go_enter Tryd.func49,Tryd.ntmps49
  go_wp2_with (go_at_call 40;with_reducible refine Calls.mono WC.out ?_;rintro e w2 ⟨rfl,b2⟩;have B2:=hid b2;obtain ⟨k2,el2,q2⟩:=(HS.out.next b2).ex;have g2:=q2.c2;have z2:=q2.fz 2;have Q2:=hid q2;have L2:=hid el2;clear q2 b2 el2)
  go_returns
  exact ⟨rfl,⟨k2,L2.out,Q2.out.bad _⟩,((Gr.refl _ _).below B2.out).set _⟩
set_option maxRecDepth 100000 in
set_option maxHeartbeats 1000000 in
theorem rlimit_any {w:World} {p b c:Nat} {ws:List Wo} {d:Nat} {s:Sp} (h:Sw w p b c ws d s) :
  Calls Tryd.prog 47 #[.pointer (some ⟨p,0,none⟩)] w fun e w'=>e=.returned (.tuple #[])∧Sw w' p b c ws d s.lim∧Gr w w' p:=by
 obtain ⟨l,o,f⟩:=s
 have HS:=hid h
 have WC:=hid (rw_any h)
 have f0:=fd0
 have f1:=fd1
 have f3:=fd3
 obtain ⟨k,el,q⟩:=h.ex
 cases o with
 | some a =>
  have c2:w.cell? ⟨p,2,none⟩=some (.int .i64 (a:Nat)):=q.c2
  have z:¬ (a:Int)<0:=by omega
  clear h q el
  go_enter Tryd.func47,Tryd.ntmps47
  go_wp2
  go_returns
  exact ⟨rfl,HS.out,Gr.refl _ _⟩
 | none =>
  have c2:w.cell? ⟨p,2,none⟩=some (.int .i64 (-1)):=q.c2
  clear h q el
  go_enter Tryd.func47,Tryd.ntmps47
  go_wp2_with (go_at_call 40;with_reducible refine Calls.mono WC.out ?_;rintro e w2 ⟨rfl,b2⟩;have B2:=hid b2;obtain ⟨k2,el2,q2⟩:=(HS.out.next b2).ex;have g2:=q2.c2;have z2:=q2.fz 2;have g3:=q2.c3;have z3:=q2.fz 3;have Q2:=hid q2;have L2:=hid el2;clear q2 b2 el2)
  go_returns
  exact ⟨rfl,⟨k2,L2.out,(Q2.out.bad _).deep⟩,(((Gr.refl _ _).below B2.out).set _).set _⟩
theorem is_of (l:List Wo) (o:Option Nat) (f:Bool) (t:ByteArray):Sp.is ⟨l,o,f⟩ t=(o.isNone && (kw l==2 || kw l==7) && eqB (tw l) t):=rfl
set_option maxRecDepth 100000 in
set_option maxHeartbeats 1000000 in
theorem ris_any {w:World} {p b c:Nat} {ws:List Wo} {d:Nat} {s:Sp} (h:Sw w p b c ws d s) (t:ByteArray) :
  Calls Tryd.prog 46 #[.pointer (some ⟨p,0,none⟩),.string t] w fun e w'=>e=.returned (.bool (s.is t))∧Below w.heap.size w w':=by
 obtain ⟨l,o,f⟩:=s
 have HS:=hid h
 have WC:=hid (rw_any h)
 have f0:=fd0
 have f1:=fd1
 have f3:=fd3
 rw [is_of]
 dsimp only at WC
 have RW:=hid (fun w (h:Sw w p b c ws d ⟨l,o,f⟩)=>rw_any h)
 dsimp only at RW
 clear h
 generalize kw l=kx at *
 generalize tw l=xt at *
 generalize nw l=xn at *
 generalize aw l=xa at *
 go_enter Tryd.func46,Tryd.ntmps46
 go_upto_region 2 with (go_at_call 40;with_reducible refine Calls.mono WC.out ?_;rintro e w2 ⟨rfl,b2⟩;have HS2:=hid (HS.out.next b2);have B2:=hid b2;clear b2)
 obtain ⟨k,el,q⟩:=HS2.out.ex
 cases o with
 | some a =>
  have c2:w2.cell? ⟨p,2,none⟩=some (.int .i64 (a:Nat)):=q.c2
  have z:¬ (a:Int)<0:=by omega
  clear q el
  go_wp2
  go_returns
  exact ⟨rfl,B2.out⟩
 | none =>
  have c2:w2.cell? ⟨p,2,none⟩=some (.int .i64 (-1)):=q.c2
  have WC2:=hid (RW.out _ HS2.out)
  clear q el
  by_cases y:kx=2
  ·subst y
   go_wp2_with (go_at_call 40;with_reducible refine Calls.mono WC2.out ?_;rintro e w3 ⟨rfl,b3⟩;have B3:=hid (nextB B2.out b3);clear b3)
   go_returns
   exact ⟨by rw [← eqB_is];rfl,B3.out⟩
  ·by_cases y7:kx=7
   ·subst y7
    go_wp2_with (go_at_call 40;with_reducible refine Calls.mono WC2.out ?_;rintro e w3 ⟨rfl,b3⟩;have B3:=hid (nextB B2.out b3);clear b3)
    go_returns
    exact ⟨by rw [← eqB_is];rfl,B3.out⟩
   ·have n2:¬ (kx:Int)=2:=by omega
    have n7:¬ (kx:Int)=7:=by omega
    go_wp2
    go_returns
    exact ⟨by simp [y,y7],B2.out⟩
theorem is_kw {s:Sp} {t:ByteArray} (h:s.is t=true):kw s.l≠0:=by
 unfold Sp.is at h
 simp only [Bool.and_eq_true,Bool.or_eq_true,beq_iff_eq] at h
 omega
def Sp.tk (s:Sp) (t:ByteArray):Sp:=if s.is t then s.nx else s
set_option maxRecDepth 100000 in
set_option maxHeartbeats 1000000 in
theorem rtake_any {w:World} {p b c:Nat} {ws:List Wo} {d:Nat} {s:Sp} (h:Sw w p b c ws d s) (t:ByteArray) :
  Calls Tryd.prog 41 #[.pointer (some ⟨p,0,none⟩),.string t] w fun e w'=>e=.returned (.bool (s.is t))∧Sw w' p b c ws d (s.tk t)∧Gr w w' p:=by
 have HS:=hid h
 have IC:=hid (ris_any h t)
 have KH:=hid (is_kw (s:=s) (t:=t))
 unfold Sp.tk
 clear h
 cases y:s.is t with
 | false =>
  rw [y] at IC
  simp only [Bool.false_eq_true,if_false]
  go_enter Tryd.func41,Tryd.ntmps41
  go_wp2_with (go_at_call 46;with_reducible refine Calls.mono IC.out ?_;rintro e w2 ⟨rfl,b2⟩;have HS2:=hid (HS.out.next b2);have B2:=hid b2;clear b2)
  go_returns
  exact ⟨rfl,HS2.out,(Gr.refl _ _).below B2.out⟩
 | true =>
  rw [y] at IC
  simp only [if_true]
  have K0:=hid (KH.out y)
  go_enter Tryd.func41,Tryd.ntmps41
  go_wp2_with (go_at_call 46;with_reducible refine Calls.mono IC.out ?_;rintro e w2 ⟨rfl,b2⟩;obtain ⟨k,k9,el,q,hk,et⟩:=(HS.out.next b2).mv K0.out;have g1:=q.c1;have z1:=q.fz 1;have Q:=hid (q.step hk);have ET:=hid et;have B2:=hid b2;clear b2 q el et hk)
  go_returns
  exact ⟨rfl,⟨k+1,ET.out,Q.out⟩,((Gr.refl _ _).below B2.out).set _⟩
set_option maxRecDepth 100000 in
set_option maxHeartbeats 1000000 in
theorem rwant_any {w:World} {p b c:Nat} {ws:List Wo} {d:Nat} {s:Sp} (h:Sw w p b c ws d s) (t:ByteArray) :
  Calls Tryd.prog 44 #[.pointer (some ⟨p,0,none⟩),.string t] w fun e w'=>e=.returned (.tuple #[])∧Sw w' p b c ws d (s.want t)∧Gr w w' p:=by
 have IC:=hid (rtake_any h t)
 unfold Sp.want
 unfold Sp.tk at IC
 clear h
 cases y:s.is t with
 | false =>
  rw [y] at IC
  simp only [Bool.false_eq_true,if_false] at IC ⊢
  go_enter Tryd.func44,Tryd.ntmps44
  go_wp2_with first | (go_at_call 41;with_reducible refine Calls.mono IC.out ?_;rintro e w2 ⟨rfl,h2,g2⟩;have G2:=hid g2;have FC:=hid (rfail_any h2);clear h2 g2) | (go_at_call 49;with_reducible refine Calls.mono FC.out ?_;rintro e w3 ⟨rfl,h3,g3⟩;have G3:=hid (G2.out.trans g3);have H3:=hid h3;clear h3 g3)
  go_returns
  exact ⟨rfl,H3.out,G3.out⟩
 | true =>
  rw [y] at IC
  simp only [if_true] at IC ⊢
  go_enter Tryd.func44,Tryd.ntmps44
  go_wp2_with (go_at_call 41;with_reducible refine Calls.mono IC.out ?_;rintro e w2 ⟨rfl,h2,g2⟩;have G2:=hid g2;have H2:=hid h2;clear h2 g2)
  go_returns
  exact ⟨rfl,H2.out,G2.out⟩
def knl:List (List UInt8):=[[],[98,111,111,108],[99,111,117,110,116],[109,111,110,101,121],[114,97,116,101],[100,97,116,101],[109,111,110,101,121,115]]
def kn (i:Nat):List UInt8:=knl.getD i []
theorem kn_new (w:World) (t:TypeId):∀ i,i<7→(w.alloc (.cells #[.string ⟨#[]⟩,.string ⟨#[98,111,111,108]⟩,.string ⟨#[99,111,117,110,116]⟩,.string ⟨#[109,111,110,101,121]⟩,.string ⟨#[114,97,116,101]⟩,.string ⟨#[100,97,116,101]⟩,.string ⟨#[109,111,110,101,121,115]⟩] t)).cell? ⟨w.heap.size,i,none⟩=some (.string (tx (kn i))):=by
 intro i hi
 match i,hi with
 | 0,_=>simp;rfl
 | 1,_=>simp;rfl
 | 2,_=>simp;rfl
 | 3,_=>simp;rfl
 | 4,_=>simp;rfl
 | 5,_=>simp;rfl
 | 6,_=>simp;rfl
 | i+7,hi=>omega
theorem kn_at (s:ByteArray) (j:Nat) (h1:1≤j) (h7:j<7) (h:kn j=s.toList):kindF s=j:=by
 rw [ByteArray.toList_eq] at h
 unfold kindF eqB
 rw [← h]
 match j,h1,h7 with
 | 1,_,_=>rfl
 | 2,_,_=>rfl
 | 3,_,_=>rfl
 | 4,_,_=>rfl
 | 5,_,_=>rfl
 | 6,_,_=>rfl
theorem kn_no (s:ByteArray) (h:∀ i,1≤i→i<7→kn i≠s.toList):kindF s=0:=by
 rw [ByteArray.toList_eq] at h
 have e:∀ i,1≤i→i<7→(s.data.toList==kn i)=false:=fun i a b=>by
  have:=h i a b
  exact beq_eq_false_iff_ne.2 fun q=>this q.symm
 unfold kindF eqB
 rw [show (s.data.toList==(⟨#[98,111,111,108]⟩:ByteArray).data.toList)=false from e 1 (by omega) (by omega),show (s.data.toList==(⟨#[99,111,117,110,116]⟩:ByteArray).data.toList)=false from e 2 (by omega) (by omega),show (s.data.toList==(⟨#[109,111,110,101,121]⟩:ByteArray).data.toList)=false from e 3 (by omega) (by omega),show (s.data.toList==(⟨#[114,97,116,101]⟩:ByteArray).data.toList)=false from e 4 (by omega) (by omega),show (s.data.toList==(⟨#[100,97,116,101]⟩:ByteArray).data.toList)=false from e 5 (by omega) (by omega),show (s.data.toList==(⟨#[109,111,110,101,121,115]⟩:ByteArray).data.toList)=false from e 6 (by omega) (by omega)]
 rfl
set_option maxHeartbeats 4000000 in
theorem rKind_any (s : ByteArray) (w : World) : Calls Tryd.prog 57 #[.string s] w fun e w' => e = .returned (.int .i64 (kindF s : Nat)) ∧ Below w.heap.size w w' := by
  have KA := hid (kn_at s)
  have KO := hid (kn_no s)
  go_enter Tryd.func57, Tryd.ntmps57
  go_upto_region 2 with fail
  have NB : Hid (Below w.heap.size w (w.alloc (.cells #[.string ⟨#[]⟩, .string ⟨#[98, 111, 111, 108]⟩, .string ⟨#[99, 111, 117, 110, 116]⟩, .string ⟨#[109, 111, 110, 101, 121]⟩, .string ⟨#[114, 97, 116, 101]⟩, .string ⟨#[100, 97, 116, 101]⟩, .string ⟨#[109, 111, 110, 101, 121, 115]⟩] 9))) := (Below.refl _ _).alloc (Nat.le_refl _) _
  have NC := hid (kn_new w 9)
  generalize (w.alloc _) = w1 at *
  go_wp2_with fail
  go_loopg [4] 6 (fun g iv wr => ∃ j : Nat, 1 ≤ j ∧ j ≤ 7 ∧ g = 7 - j ∧ iv = .int .i64 (j : Nat) ∧ w1 = wr ∧ Hid (∀ i, 1 ≤ i → i < j → kn i ≠ s.toList))
  case atStart => exact ⟨1, by omega, by omega, rfl, rfl, rfl, fun i hi hj => by omega⟩
  case round =>
    obtain ⟨j, h1, hj, rfl, rfl, rfl, hn⟩ := hrel
    by_cases q : j < 7
    · have q' : (j : Int) < 7 := by omega
      have cj := NC.out j q
      have el := tx_list (kn j)
      by_cases y : kn j = s.toList
      · have y' : ((tx (kn j)).toList == s.toList) = true := by rw [el, y]; exact beq_self_eq_true _
        have E := hid (KA.out j h1 q y)
        clear el y
        generalize tx (kn j) = T at *
        go_wp2_with fail
        go_ret
        exact ⟨by rw [E.out]; rfl, NB.out⟩
      · have y' : ((tx (kn j)).toList == s.toList) = false := by rw [el]; exact beq_eq_false_iff_ne.2 y
        have NN := hid (fun i h1 hi => by rcases Nat.lt_or_ge i j with c | c
                                          · exact hn.out i h1 c
                                          · obtain rfl : i = j := by omega
                                            exact y : ∀ i, 1 ≤ i → i < j + 1 → kn i ≠ s.toList)
        clear el y
        generalize tx (kn j) = T at *
        go_wp2_with fail
        go_roundg (7 - (j + 1))
        case measure => omega
        case rel => exact ⟨j + 1, by omega, by omega, rfl, by rw [Int.natCast_add]; rfl, rfl, NN⟩
    · obtain rfl : j = 7 := by omega
      have E := hid (KO.out hn.out)
      go_wp2_with fail
      go_ret
      exact ⟨by rw [E.out]; rfl, NB.out⟩
set_option maxRecDepth 100000 in
set_option maxHeartbeats 1000000 in
theorem rname_any {w:World} {p b c:Nat} {ws:List Wo} {d:Nat} {s:Sp} (h:Sw w p b c ws d s) :
  Calls Tryd.prog 42 #[.pointer (some ⟨p,0,none⟩)] w fun e w'=>e=.returned (.string s.nm.1)∧Sw w' p b c ws d s.nm.2∧Gr w w' p:=by
 obtain ⟨l,o,f⟩:=s
 have HS:=hid h
 have WC:=hid (rw_any h)
 have f0:=fd0
 obtain ⟨k,el,q⟩:=h.ex
 cases o with
 | some a =>
  have c2:w.cell? ⟨p,2,none⟩=some (.int .i64 (a:Nat)):=q.c2
  have z:(0:Int)≤(a:Int):=by omega
  have FC:=hid (rfail_any h)
  clear h q el
  go_enter Tryd.func42,Tryd.ntmps42
  go_wp2_with (go_at_call 49;with_reducible refine Calls.mono FC.out ?_;rintro e w3 ⟨rfl,h3,g3⟩;have G3:=hid g3;have H3:=hid h3;clear h3 g3)
  go_returns
  exact ⟨rfl,H3.out,G3.out⟩
 | none =>
  have c2:w.cell? ⟨p,2,none⟩=some (.int .i64 (-1)):=q.c2
  clear h q el
  dsimp only at WC
  have MV:=hid (fun w (h:Sw w p b c ws d ⟨l,none,f⟩)=>h.mv)
  have NM:=hid (show Sp.nm ⟨l,none,f⟩=if kw l=1 then (tw l,⟨l.tail,none,f⟩) else (⟨#[]⟩,Sp.fail ⟨l,none,f⟩) from by unfold Sp.nm;simp [Sp.ok,Sp.nx])
  dsimp only at MV
  have CU:=hid (fun w k (el:l=ws.drop k) (q:Pr w p b c ws d k none f)=>show w.cell? ⟨b,k*4+1,none⟩=some (.string (tw l)) from by
   obtain ⟨x,cu⟩:=q.cur
   rw [el,cu.dr];exact cu.d1)
  by_cases y:kw l=1
  ·rw [if_pos y] at NM
   rw [NM.out]
   have K0:=hid (show kw l≠0 by omega)
   rw [y] at WC
   generalize kw l=kx at *
   generalize nw l=xn at *
   generalize aw l=xa at *
   go_enter Tryd.func42,Tryd.ntmps42
   go_upto_region 5 with (go_at_call 40;with_reducible refine Calls.mono WC.out ?_;rintro e w2 ⟨rfl,b2⟩;obtain ⟨k,k9,el,q,hk,et⟩:=MV.out _ (HS.out.next b2) K0.out;have g1:=q.c1;have z1:=q.fz 1;have C1:=hid (CU.out _ _ el q);have Q0:=hid q;have Q:=hid (q.step hk);have ET:=hid et;have B2:=hid b2;clear b2 q el et)
   have pb:=Q0.out.ne
   have c0:=Q.out.c0
   have c1:(w2.setCell ⟨p,1,none⟩ (.int .i64 ((k:Int)+1))).cell? ⟨p,1,none⟩=some (.int .i64 ((k:Int)+1)):=by have:=Q.out.c1;rw [Int.natCast_add] at this;exact this
   have d1:(w2.setCell ⟨p,1,none⟩ (.int .i64 ((k:Int)+1))).cell? ⟨b,k*4+1,none⟩=some (.string (tw l)):=(cell_ne fun e=>pb e.1).trans C1.out
   have G:=hid (((Gr.refl w p).below B2.out).set (i:=1) (.int .i64 ((k:Int)+1)))
   have l1:(k:Int)<(ws.length:Int):=by omega
   have l2:ws.length≤9000:=Q0.out.len
   generalize World.setCell w2 _ _=w3 at *
   have ks:(k:Int)+1 - 1=k:=by omega
   go_quiet (fail)
   go_wp2
   go_returns
   exact ⟨rfl,⟨k+1,ET.out,Q.out.next (drewN_below _ _)⟩,G.out.below (drewN_below _ _)⟩
  ·rw [if_neg y] at NM
   rw [NM.out]
   generalize kw l=kx at *
   have n1:¬ (kx:Int)=1:=by omega
   go_enter Tryd.func42,Tryd.ntmps42
   go_wp2_with first | (go_at_call 40;with_reducible refine Calls.mono WC.out ?_;rintro e w2 ⟨rfl,b2⟩;have FC:=hid (rfail_any (HS.out.next b2));have B2:=hid b2;clear b2 WC) | (go_at_call 49;with_reducible refine Calls.mono FC.out ?_;rintro e w3 ⟨rfl,h3,g3⟩;have G3:=hid (((Gr.refl _ _).below B2.out).trans g3);have H3:=hid h3;clear h3 g3)
   go_returns
   exact ⟨rfl,H3.out,G3.out⟩
set_option maxRecDepth 100000 in
set_option maxHeartbeats 1000000 in
theorem rkind_any {w:World} {p b c:Nat} {ws:List Wo} {d:Nat} {s:Sp} (h:Sw w p b c ws d s) :
  Calls Tryd.prog 43 #[.pointer (some ⟨p,0,none⟩)] w fun e w'=>e=.returned (.int .i64 (s.kd.1:Nat))∧Sw w' p b c ws d s.kd.2∧Gr w w' p:=by
 obtain ⟨l,o,f⟩:=s
 have HS:=hid h
 have WC:=hid (rw_any h)
 have f0:=fd0
 have f1:=fd1
 obtain ⟨k,el,q⟩:=h.ex
 cases o with
 | some a =>
  have c2:w.cell? ⟨p,2,none⟩=some (.int .i64 (a:Nat)):=q.c2
  have z:¬ (a:Int)<0:=by omega
  have FC:=hid (rfail_any h)
  clear h q el
  go_enter Tryd.func43,Tryd.ntmps43
  go_wp2_with (go_at_call 49;with_reducible refine Calls.mono FC.out ?_;rintro e w3 ⟨rfl,h3,g3⟩;have G3:=hid g3;have H3:=hid h3;clear h3 g3)
  go_returns
  exact ⟨rfl,H3.out,G3.out⟩
 | none =>
  have c2:w.cell? ⟨p,2,none⟩=some (.int .i64 (-1)):=q.c2
  clear h q el
  have RW:=hid (fun w (h:Sw w p b c ws d ⟨l,none,f⟩)=>rw_any h)
  dsimp only at WC RW
  have MV:=hid (fun w (h:Sw w p b c ws d ⟨l,none,f⟩)=>h.mv)
  have NM:=hid (show Sp.kd ⟨l,none,f⟩=if kw l=2∧kindF (tw l)≠0 then (kindF (tw l),⟨l.tail,none,f⟩) else (0,Sp.fail ⟨l,none,f⟩) from by
   unfold Sp.kd
   by_cases q:kw l=2∧kindF (tw l)≠0
   ·rw [if_pos q,if_pos (by simp [Sp.ok,q.1,q.2])];rfl
   ·rw [if_neg q,if_neg (by simp [Sp.ok];intro a;exact Classical.byContradiction fun z=>q ⟨a,z⟩)])
  dsimp only at MV
  by_cases y:kw l=2
  ·have K0:=hid (show kw l≠0 by omega)
   have KC:=hid (rKind_any (tw l))
   rw [y] at WC RW NM
   simp only [true_and] at NM
   generalize kw l=kx at *
   generalize nw l=xn at *
   generalize aw l=xa at *
   generalize tw l=xt at *
   generalize kindF xt=kd at *
   by_cases v:kd=0
   ·subst v
    rw [if_neg (by simp)] at NM
    rw [NM.out]
    go_enter Tryd.func43,Tryd.ntmps43
    go_upto_region 3 with (go_at_call 40;with_reducible refine Calls.mono WC.out ?_;rintro e w2 ⟨rfl,b2⟩;have HS2:=hid (HS.out.next b2);have WC2:=hid (RW.out _ (HS.out.next b2));have B2:=hid b2;clear b2 WC)
    go_wp2_with first | (go_at_call 40;with_reducible refine Calls.mono WC2.out ?_;rintro e w3 ⟨rfl,b3⟩;replace HS2:=hid (HS2.out.next b3);replace B2:=hid (nextB B2.out b3);have KC2:=hid (KC.out w3);clear b3) | (go_at_call 57;with_reducible refine Calls.mono KC2.out ?_;rintro e w4 ⟨rfl,b4⟩;replace B2:=hid (nextB B2.out b4);have FC:=hid (rfail_any (HS2.out.next b4));clear b4) | (go_at_call 49;with_reducible refine Calls.mono FC.out ?_;rintro e w5 ⟨rfl,h3,g3⟩;have G3:=hid (((Gr.refl _ _).below B2.out).trans g3);have H3:=hid h3;clear h3 g3)
    go_returns
    exact ⟨rfl,H3.out,G3.out⟩
   ·rw [if_pos v] at NM
    rw [NM.out]
    have v':¬ (kd:Int)=0:=by omega
    go_enter Tryd.func43,Tryd.ntmps43
    go_upto_region 3 with (go_at_call 40;with_reducible refine Calls.mono WC.out ?_;rintro e w2 ⟨rfl,b2⟩;have HS2:=hid (HS.out.next b2);have WC2:=hid (RW.out _ (HS.out.next b2));have B2:=hid b2;clear b2 WC)
    go_wp2_with first | (go_at_call 40;with_reducible refine Calls.mono WC2.out ?_;rintro e w3 ⟨rfl,b3⟩;replace HS2:=hid (HS2.out.next b3);replace B2:=hid (nextB B2.out b3);have KC2:=hid (KC.out w3);clear b3) | (go_at_call 57;with_reducible refine Calls.mono KC2.out ?_;rintro e w4 ⟨rfl,b4⟩;replace B2:=hid (nextB B2.out b4);obtain ⟨k,k9,el,q,hk,et⟩:=MV.out _ (HS2.out.next b4) K0.out;have g1:=q.c1;have z1:=q.fz 1;have Q:=hid (q.step hk);have ET:=hid et;clear b4 q el et hk)
    go_returns
    exact ⟨rfl,⟨k+1,ET.out,Q.out⟩,((Gr.refl _ _).below B2.out).set _⟩
  ·rw [if_neg (fun e=>y e.1)] at NM
   rw [NM.out]
   generalize kw l=kx at *
   have n1:¬ (kx:Int)=2:=by omega
   go_enter Tryd.func43,Tryd.ntmps43
   go_wp2_with first | (go_at_call 40;with_reducible refine Calls.mono WC.out ?_;rintro e w2 ⟨rfl,b2⟩;have FC:=hid (rfail_any (HS.out.next b2));have B2:=hid b2;clear b2 WC) | (go_at_call 49;with_reducible refine Calls.mono FC.out ?_;rintro e w3 ⟨rfl,h3,g3⟩;have G3:=hid (((Gr.refl _ _).below B2.out).trans g3);have H3:=hid h3;clear h3 g3)
   go_returns
   exact ⟨rfl,H3.out,G3.out⟩
theorem islit_of (l:List Wo) (f:Bool):Sp.islit ⟨l,none,f⟩=((3≤kw l && kw l≤6) || Sp.is ⟨l,none,f⟩ ⟨#[116,114,117,101]⟩ || Sp.is ⟨l,none,f⟩ ⟨#[102,97,108,115,101]⟩):=by
 unfold Sp.islit
 simp [Sp.ok,sTrue,sFalse]
set_option maxRecDepth 100000 in
set_option maxHeartbeats 1000000 in
theorem rislit_any {w:World} {p b c:Nat} {ws:List Wo} {d:Nat} {s:Sp} (h:Sw w p b c ws d s) :
  Calls Tryd.prog 61 #[.pointer (some ⟨p,0,none⟩)] w fun e w'=>e=.returned (.bool s.islit)∧Below w.heap.size w w':=by
 obtain ⟨l,o,f⟩:=s
 have HS:=hid h
 have WC:=hid (rw_any h)
 have IT:=hid (fun w (h:Sw w p b c ws d ⟨l,o,f⟩) t=>ris_any h t)
 have f0:=fd0
 dsimp only at WC
 clear h
 cases o with
 | some a =>
  show Calls _ _ _ _ fun e w'=>e=.returned (.bool false)∧Below w.heap.size w w'
  go_enter Tryd.func61,Tryd.ntmps61
  go_upto_region 2 with (go_at_call 40;with_reducible refine Calls.mono WC.out ?_;rintro e w2 ⟨rfl,b2⟩;have HS2:=hid (HS.out.next b2);have B2:=hid b2;clear b2)
  obtain ⟨k,el,q⟩:=HS2.out.ex
  have c2:w2.cell? ⟨p,2,none⟩=some (.int .i64 (a:Nat)):=q.c2
  have z:¬ (a:Int)<0:=by omega
  clear q el
  go_wp2
  go_returns
  exact ⟨rfl,B2.out⟩
 | none =>
  rw [islit_of]
  generalize ht:Sp.is ⟨l,none,f⟩ ⟨#[116,114,117,101]⟩=bt at *
  generalize hf:Sp.is ⟨l,none,f⟩ ⟨#[102,97,108,115,101]⟩=bf at *
  have HT:=hid ht
  have HF:=hid hf
  clear ht hf
  generalize kw l=kx at *
  go_enter Tryd.func61,Tryd.ntmps61
  go_upto_region 2 with (go_at_call 40;with_reducible refine Calls.mono WC.out ?_;rintro e w2 ⟨rfl,b2⟩;have HS2:=hid (HS.out.next b2);have B2:=hid b2;clear b2)
  obtain ⟨k,el,q⟩:=HS2.out.ex
  have c2:w2.cell? ⟨p,2,none⟩=some (.int .i64 (-1)):=q.c2
  clear q el
  have I1:=hid (IT.out _ HS2.out ⟨#[116,114,117,101]⟩)
  rw [HT.out] at I1
  by_cases y:3≤kx∧kx≤6
  ·have y1:(3:Int)≤(kx:Int):=by omega
   have y2:(kx:Int)≤6:=by omega
   go_wp2
   go_returns
   exact ⟨by simp [y.1,y.2],B2.out⟩
  ·by_cases y3:3≤kx
   ·have y1:(3:Int)≤(kx:Int):=by omega
    have y2:¬ (kx:Int)≤6:=by omega
    have E0:=hid (show (decide (3≤kx) && decide (kx≤6))=false by simp;omega)
    cases bt with
    | true =>
     go_wp2_with (go_at_call 46;with_reducible refine Calls.mono I1.out ?_;rintro e w3 ⟨rfl,b3⟩;replace B2:=hid (nextB B2.out b3);clear b3)
     go_returns
     exact ⟨by rw [E0.out];rfl,B2.out⟩
    | false =>
     go_wp2_with first | (go_at_call 46;with_reducible refine Calls.mono I1.out ?_;rintro e w3 ⟨rfl,b3⟩;replace B2:=hid (nextB B2.out b3);have I2:=hid (IT.out _ (HS2.out.next b3) ⟨#[102,97,108,115,101]⟩);rw [HF.out] at I2;clear b3 I1) | (go_at_call 46;with_reducible refine Calls.mono I2.out ?_;rintro e w4 ⟨rfl,b4⟩;replace B2:=hid (nextB B2.out b4);clear b4)
     go_returns
     exact ⟨by rw [E0.out];rfl,B2.out⟩
   ·have y1:¬ (3:Int)≤(kx:Int):=by omega
    have E0:=hid (show (decide (3≤kx) && decide (kx≤6))=false by simp;omega)
    cases bt with
    | true =>
     go_wp2_with (go_at_call 46;with_reducible refine Calls.mono I1.out ?_;rintro e w3 ⟨rfl,b3⟩;replace B2:=hid (nextB B2.out b3);clear b3)
     go_returns
     exact ⟨by rw [E0.out];rfl,B2.out⟩
    | false =>
     go_wp2_with first | (go_at_call 46;with_reducible refine Calls.mono I1.out ?_;rintro e w3 ⟨rfl,b3⟩;replace B2:=hid (nextB B2.out b3);have I2:=hid (IT.out _ (HS2.out.next b3) ⟨#[102,97,108,115,101]⟩);rw [HF.out] at I2;clear b3 I1) | (go_at_call 46;with_reducible refine Calls.mono I2.out ?_;rintro e w4 ⟨rfl,b4⟩;replace B2:=hid (nextB B2.out b4);clear b4)
     go_returns
     exact ⟨by rw [E0.out];rfl,B2.out⟩
set_option maxRecDepth 100000 in
set_option maxHeartbeats 1000000 in
theorem rin_bad {w:World} {p b c:Nat} {ws:List Wo} {d:Nat} {s:Sp} (h:Sw w p b c ws d s) (hb:s.ok=false) :
  Calls Tryd.prog 58 #[.pointer (some ⟨p,0,none⟩)] w fun e w'=>e=.returned (.bool false)∧w=w':=by
 obtain ⟨l,o,f⟩:=s
 obtain ⟨k,el,q⟩:=h.ex
 cases o with
 | none=>exact absurd hb (by simp [Sp.ok])
 | some a =>
  have c2:w.cell? ⟨p,2,none⟩=some (.int .i64 (a:Nat)):=q.c2
  have z:(0:Int)≤(a:Int):=by omega
  clear h q el hb
  go_enter Tryd.func58,Tryd.ntmps58
  go_wp2
  go_returns
  exact ⟨rfl,rfl⟩
set_option maxRecDepth 100000 in
set_option maxHeartbeats 1000000 in
theorem rin_lim {w:World} {p b c:Nat} {ws:List Wo} {s:Sp} (h:Sw w p b c ws 40 s) (hb:s.ok=true) :
  Calls Tryd.prog 58 #[.pointer (some ⟨p,0,none⟩)] w fun e w'=>e=.returned (.bool false)∧Sw w' p b c ws 40 s.lim∧Gr w w' p:=by
 obtain ⟨l,o,f⟩:=s
 obtain ⟨k,el,q⟩:=h.ex
 cases o with
 | some a=>exact absurd hb (by simp [Sp.ok])
 | none =>
  have c2:w.cell? ⟨p,2,none⟩=some (.int .i64 (-1)):=q.c2
  have c4:w.cell? ⟨p,4,none⟩=some (.int .i64 40):=q.c4
  have LC:=hid (rlimit_any h)
  clear h q el hb
  go_enter Tryd.func58,Tryd.ntmps58
  go_wp2_with (go_at_call 47;with_reducible refine Calls.mono LC.out ?_;rintro e w3 ⟨rfl,h3,g3⟩;have G3:=hid g3;have H3:=hid h3;clear h3 g3)
  go_returns
  exact ⟨rfl,H3.out,G3.out⟩
set_option maxRecDepth 100000 in
set_option maxHeartbeats 1000000 in
theorem rin_ok {w:World} {p b c:Nat} {ws:List Wo} {d:Nat} {s:Sp} (h:Sw w p b c ws d s) (hb:s.ok=true) (hd:d<40) :
  Calls Tryd.prog 58 #[.pointer (some ⟨p,0,none⟩)] w fun e w'=>e=.returned (.bool true)∧Sw w' p b c ws (d+1) s∧Gr w w' p:=by
 obtain ⟨l,o,f⟩:=s
 obtain ⟨k,el,q⟩:=h.ex
 cases o with
 | some a=>exact absurd hb (by simp [Sp.ok])
 | none =>
  have c2:w.cell? ⟨p,2,none⟩=some (.int .i64 (-1)):=q.c2
  have c4:w.cell? ⟨p,4,none⟩=some (.int .i64 (d:Nat)):=q.c4
  have z4:=q.fz 4
  have z:¬ (40:Int)≤(d:Int):=by omega
  have Q:=hid (q.dep (d+1) ((d:Int)+1) (by omega))
  have EL:=hid el
  clear h q el hb
  go_enter Tryd.func58,Tryd.ntmps58
  go_wp2
  go_returns
  exact ⟨rfl,⟨k,EL.out,Q.out⟩,(Gr.refl _ _).set _⟩
set_option maxRecDepth 100000 in
set_option maxHeartbeats 1000000 in
theorem rout_any {w:World} {p b c:Nat} {ws:List Wo} {d:Nat} {s:Sp} (h:Sw w p b c ws (d+1) s) (hd:d<40) :
  Calls Tryd.prog 60 #[.pointer (some ⟨p,0,none⟩)] w fun e w'=>e=.returned (.tuple #[])∧Sw w' p b c ws d s∧Gr w w' p:=by
 obtain ⟨k,el,q⟩:=h.ex
 have c4:w.cell? ⟨p,4,none⟩=some (.int .i64 ((d:Int)+1)):=q.c4
 have z4:=q.fz 4
 have z:(d:Int)<40:=by omega
 have ks:(d:Int)+1 - 1=d:=by omega
 have Q:=hid (q.dep d ((d:Int)) (by omega))
 have EL:=hid el
 clear h q el
 go_enter Tryd.func60,Tryd.ntmps60
 go_wp2
 go_returns
 exact ⟨rfl,⟨k,EL.out,Q.out⟩,(Gr.refl _ _).set _⟩
def Rn (w w':World) (p b c:Nat) (ws:List Wo) (d:Nat) (e:Ending) (r:Tr × Sp):Prop:=Gr w w' p∧Sw w' p b c ws d r.2∧∃ v,e=.returned v∧Nv w' (fun g=>w.heap.size≤g) v r.1
theorem Nd.slice {w:World} {S:Nat→Prop} {v:Value} {ts:List Tr} (h:Nd w S v ts):∃ sa sm sc,v=.slice sa sm sc:=by
 cases h with
 | nil=>exact ⟨_,_,_,rfl⟩
 | row g c ts sl hs h0 hc hk=>exact ⟨_,_,_,rfl⟩
theorem Rn.parts {w w':World} {p b c:Nat} {ws:List Wo} {d:Nat} {e:Ending} {r:Tr × Sp} (h:Rn w w' p b c ws d e r):Gr w w' p∧Sw w' p b c ws d r.2∧∃ sa sm sc,e=.returned (.agg #[.string r.1.op,.string r.1.name,.int .i64 (r.1.kind:Nat),.int .i64 r.1.n,.int .i64 (r.1.pl:Nat),.slice sa sm sc])∧Nd w' (fun g=>w.heap.size≤g) (.slice sa sm sc) r.1.kids:=by
 obtain ⟨g,s,v,rfl,sl,rfl,n⟩:=h
 obtain ⟨sa,sm,sc,rfl⟩:=n.slice
 exact ⟨g,s,sa,sm,sc,rfl,n⟩
theorem nd_one1 {w:World} {S:Nat→Prop} {g c:Nat} {t:Tr} {sl:Value} (hs:S g) (hc:NC w g 0 t sl) (hk:Nd w S sl t.kids):Nd w S (.slice (some ⟨g,0,none⟩) 1 c) [t] :=
 .row g c [t] (fun _=>sl) hs (by simp) (fun i t' e=>by
  cases i with
  | zero=>simp at e;subst e;exact hc
  | succ i=>simp at e) (fun i t' e=>by
  cases i with
  | zero=>simp at e;subst e;exact hk
  | succ i=>simp at e)
theorem nd_two2 {w:World} {S:Nat→Prop} {g c:Nat} {t u:Tr} {sl sm:Value} (hs:S g) (hc:NC w g 0 t sl) (hd:NC w g 6 u sm) (hk:Nd w S sl t.kids) (hl:Nd w S sm u.kids):Nd w S (.slice (some ⟨g,0,none⟩) 2 c) [t,u] :=
 .row g c [t,u] (fun i=>if i=0 then sl else sm) hs (by simp) (fun i t' e=>by
  match i,e with
  | 0,e=>simp at e;subst e;exact hc
  | 1,e=>simp at e;subst e;exact hd
  | i+2,e=>simp at e) (fun i t' e=>by
  match i,e with
  | 0,e=>simp at e;subst e;exact hk
  | 1,e=>simp at e;subst e;exact hl
  | i+2,e=>simp at e)
theorem nd_three3 {w:World} {S:Nat→Prop} {g c:Nat} {t u x:Tr} {sl sm sx:Value} (hs:S g) (hc:NC w g 0 t sl) (hd:NC w g 6 u sm) (he:NC w g 12 x sx) (hk:Nd w S sl t.kids) (hl:Nd w S sm u.kids) (hm:Nd w S sx x.kids):Nd w S (.slice (some ⟨g,0,none⟩) 3 c) [t,u,x] :=
 .row g c [t,u,x] (fun i=>if i=0 then sl else if i=1 then sm else sx) hs (by simp) (fun i t' e=>by
  match i,e with
  | 0,e=>simp at e;subst e;exact hc
  | 1,e=>simp at e;subst e;exact hd
  | 2,e=>simp at e;subst e;exact he
  | i+3,e=>simp at e) (fun i t' e=>by
  match i,e with
  | 0,e=>simp at e;subst e;exact hk
  | 1,e=>simp at e;subst e;exact hl
  | 2,e=>simp at e;subst e;exact hm
  | i+3,e=>simp at e)
structure Bx (w:World) (n g:Nat) (t:Tr) (sl:Value):Prop where
 b:B6 w g (.string t.op) (.string t.name) (.int .i64 (t.kind:Nat)) (.int .i64 t.n) (.int .i64 (t.pl:Nat)) sl
 d:Nd w (fun q=>n≤q) sl t.kids
 l:n≤g
theorem Bx.gr {w w':World} {n g p:Nat} {t:Tr} {sl:Value} (h:Bx w n g t sl) (q:Gr w w' p) (hp:p<n):Bx w' n g t sl:=⟨h.b.gr q (by have:=h.l;omega),h.d.gr q hp,h.l⟩
theorem Bx.next {w w':World} {n g:Nat} {t:Tr} {sl:Value} (h:Bx w n g t sl) (q:Below w.heap.size w w'):Bx w' n g t sl:=⟨h.b.next q,h.d.next q,h.l⟩
theorem Bx.new {w:World} {n m:Nat} {t:Tr} {sl:Value} (hn:Nd w (fun q=>n≤q) sl t.kids) (hm:m≤n) (hw:m≤w.heap.size) (ty:TypeId):Bx (w.alloc (.cells #[.string t.op,.string t.name,.int .i64 (t.kind:Nat),.int .i64 t.n,.int .i64 (t.pl:Nat),sl] ty)) m w.heap.size t sl :=
 ⟨B6.new w ty _ _ _ _ _ _,(hn.weak hm).next ((Below.refl _ _).alloc (Nat.le_refl _) _),hw⟩
theorem Nd.put6x {w:World} {v:Value} {ts:List Tr} {n m q:Nat} (h:Nd w (fun g=>n≤g) v ts) (hq:q<n) (hm:m≤n) (v0 v1 v2 v3 v4 v5:Value):Nd ((((((w.setCell ⟨q,0,none⟩ v0).setCell ⟨q,1,none⟩ v1).setCell ⟨q,2,none⟩ v2).setCell ⟨q,3,none⟩ v3).setCell ⟨q,4,none⟩ v4).setCell ⟨q,5,none⟩ v5) (fun g=>m≤g) v ts :=
 (h.put6 (q:=q) (by omega) v0 v1 v2 v3 v4 v5).weak hm
set_option maxRecDepth 100000 in
set_option maxHeartbeats 4000000 in
theorem rexpr_bad {w:World} {p b c:Nat} {ws:List Wo} {d:Nat} {s:Sp} (h:Sw w p b c ws d s) (hb:s.ok=false) :
  Calls Tryd.prog 45 #[.pointer (some ⟨p,0,none⟩)] w fun e w'=>Rn w w' p b c ws d e (Tr.zero,s):=by
 have pl0:=h.pl
 have bl0:=h.bl
 have HB:=hid (B6.new w 31 (.string ⟨#[]⟩) (.string ⟨#[]⟩) (.int .i64 0) (.int .i64 0) (.int .i64 0) (.slice none 0 0))
 have HS0:Hid (Below w.heap.size w (w.alloc (.cells #[.string ⟨#[]⟩,.string ⟨#[]⟩,.int .i64 0,.int .i64 0,.int .i64 0,.slice none 0 0] 31))):=(Below.refl _ _).alloc (Nat.le_refl _) _
 have HS:=hid (h.next HS0.out)
 have HG:=hid ((Gr.refl w p).below HS0.out)
 have WS:=hid (show w.heap.size<(w.alloc (.cells #[.string ⟨#[]⟩,.string ⟨#[]⟩,.int .i64 0,.int .i64 0,.int .i64 0,.slice none 0 0] 31)).heap.size from by simp)
 have f0:=fd0
 have f1:=fd1
 have f3:=fd3
 have HBD:=hid hb
 clear h hb
 go_enter Tryd.func45,Tryd.ntmps45
 go_upto_region 1 with fail
 generalize World.alloc w _=w1 at *
 obtain ⟨n0,hn0⟩:∃ n,n=w1.heap.size:=⟨_,rfl⟩
 have wn:w.heap.size<n0:=by rw [hn0];exact WS.out
 have pn:p<n0:=by omega
 have bn:b<n0:=by omega
 replace WS:=hid (Nat.le_of_eq hn0)
 clear hn0 HS0
 have IC:=hid (rin_bad HS.out HBD.out)
 go_upto_region 2 with (go_at_call 58;with_reducible refine Calls.mono IC.out ?_;rintro e w2 ⟨rfl,rfl⟩;clear IC)
 obtain ⟨u0,u1,u2,u3,u4,u5,uz⟩:=HB.out
 have BF:=hid (HB.out.sets (.string ⟨#[]⟩) (.string ⟨#[]⟩) (.int .i64 0) (.int .i64 0) (.int .i64 0) (.slice none 0 0))
 have SF:=hid (HS.out.put6 (q:=w.heap.size) (by omega) (by omega) (.string ⟨#[]⟩) (.string ⟨#[]⟩) (.int .i64 0) (.int .i64 0) (.int .i64 0) (.slice none 0 0))
 have GF:=hid (HG.out.put6 (q:=w.heap.size) (by omega) (.string ⟨#[]⟩) (.string ⟨#[]⟩) (.int .i64 0) (.int .i64 0) (.int .i64 0) (.slice none 0 0))
 go_wp2
 generalize World.setCell _ ⟨w.heap.size,5,none⟩ _=wf at *
 obtain ⟨q0,q1,q2,q3,q4,q5,_⟩:=BF.out
 exact bodyPost_ret (v:=.agg #[.string ⟨#[]⟩,.string ⟨#[]⟩,.int .i64 0,.int .i64 0,.int .i64 0,.slice none 0 0]) (by simp [results,Tryd.results45,go_sem,q0,q1,q2,q3,q4,q5]) rfl ⟨GF.out,SF.out,_,rfl,_,rfl,.nil⟩
set_option maxRecDepth 100000 in
set_option maxHeartbeats 4000000 in
theorem rexpr_lim {w:World} {p b c:Nat} {ws:List Wo} {s:Sp} (h:Sw w p b c ws 40 s) (hb:s.ok=true) :
  Calls Tryd.prog 45 #[.pointer (some ⟨p,0,none⟩)] w fun e w'=>Rn w w' p b c ws 40 e (Tr.zero,s.lim):=by
 have pl0:=h.pl
 have bl0:=h.bl
 have HB:=hid (B6.new w 31 (.string ⟨#[]⟩) (.string ⟨#[]⟩) (.int .i64 0) (.int .i64 0) (.int .i64 0) (.slice none 0 0))
 have HS0:Hid (Below w.heap.size w (w.alloc (.cells #[.string ⟨#[]⟩,.string ⟨#[]⟩,.int .i64 0,.int .i64 0,.int .i64 0,.slice none 0 0] 31))):=(Below.refl _ _).alloc (Nat.le_refl _) _
 have HS:=hid (h.next HS0.out)
 have HG:=hid ((Gr.refl w p).below HS0.out)
 have WS:=hid (show w.heap.size<(w.alloc (.cells #[.string ⟨#[]⟩,.string ⟨#[]⟩,.int .i64 0,.int .i64 0,.int .i64 0,.slice none 0 0] 31)).heap.size from by simp)
 have f0:=fd0
 have f1:=fd1
 have f3:=fd3
 have HBD:=hid hb
 clear h hb
 go_enter Tryd.func45,Tryd.ntmps45
 go_upto_region 1 with fail
 generalize World.alloc w _=w1 at *
 obtain ⟨n0,hn0⟩:∃ n,n=w1.heap.size:=⟨_,rfl⟩
 have wn:w.heap.size<n0:=by rw [hn0];exact WS.out
 have pn:p<n0:=by omega
 have bn:b<n0:=by omega
 replace WS:=hid (Nat.le_of_eq hn0)
 clear hn0 HS0
 have IC:=hid (rin_lim HS.out HBD.out)
 go_upto_region 2 with (go_at_call 58;with_reducible refine Calls.mono IC.out ?_;rintro e w2 ⟨rfl,h2,g2⟩;replace HS:=hid h2;replace HG:=hid (HG.out.trans g2);replace HB:=hid (HB.out.gr g2 (by omega));replace WS:=hid (Nat.le_trans WS.out g2.size);clear h2 g2 IC)
 obtain ⟨u0,u1,u2,u3,u4,u5,uz⟩:=HB.out
 have BF:=hid (HB.out.sets (.string ⟨#[]⟩) (.string ⟨#[]⟩) (.int .i64 0) (.int .i64 0) (.int .i64 0) (.slice none 0 0))
 have SF:=hid (HS.out.put6 (q:=w.heap.size) (by omega) (by omega) (.string ⟨#[]⟩) (.string ⟨#[]⟩) (.int .i64 0) (.int .i64 0) (.int .i64 0) (.slice none 0 0))
 have GF:=hid (HG.out.put6 (q:=w.heap.size) (by omega) (.string ⟨#[]⟩) (.string ⟨#[]⟩) (.int .i64 0) (.int .i64 0) (.int .i64 0) (.slice none 0 0))
 go_wp2
 generalize World.setCell _ ⟨w.heap.size,5,none⟩ _=wf at *
 obtain ⟨q0,q1,q2,q3,q4,q5,_⟩:=BF.out
 exact bodyPost_ret (v:=.agg #[.string ⟨#[]⟩,.string ⟨#[]⟩,.int .i64 0,.int .i64 0,.int .i64 0,.slice none 0 0]) (by simp [results,Tryd.results45,go_sem,q0,q1,q2,q3,q4,q5]) rfl ⟨GF.out,SF.out,_,rfl,_,rfl,.nil⟩
set_option maxRecDepth 100000 in
set_option maxHeartbeats 4000000 in
theorem rexpr_ok {w:World} {p b c:Nat} {ws:List Wo} {d:Nat} {s:Sp} (h:Sw w p b c ws d s) (hb:s.ok=true) (hd:d<40) (r:Tr × Sp) (hI:∀ w,Sw w p b c ws (d+1) s→Calls Tryd.prog 59 #[.pointer (some ⟨p,0,none⟩)] w fun e w'=>Rn w w' p b c ws (d+1) e r) :
  Calls Tryd.prog 45 #[.pointer (some ⟨p,0,none⟩)] w fun e w'=>Rn w w' p b c ws d e r:=by
 have pl0:=h.pl
 have bl0:=h.bl
 have HB:=hid (B6.new w 31 (.string ⟨#[]⟩) (.string ⟨#[]⟩) (.int .i64 0) (.int .i64 0) (.int .i64 0) (.slice none 0 0))
 have HS0:Hid (Below w.heap.size w (w.alloc (.cells #[.string ⟨#[]⟩,.string ⟨#[]⟩,.int .i64 0,.int .i64 0,.int .i64 0,.slice none 0 0] 31))):=(Below.refl _ _).alloc (Nat.le_refl _) _
 have HS:=hid (h.next HS0.out)
 have HG:=hid ((Gr.refl w p).below HS0.out)
 have WS:=hid (show w.heap.size<(w.alloc (.cells #[.string ⟨#[]⟩,.string ⟨#[]⟩,.int .i64 0,.int .i64 0,.int .i64 0,.slice none 0 0] 31)).heap.size from by simp)
 have f0:=fd0
 have f1:=fd1
 have f3:=fd3
 have HBD:=hid hb
 have IH:=hid hI
 clear h hb hI
 go_enter Tryd.func45,Tryd.ntmps45
 go_upto_region 1 with fail
 generalize World.alloc w _=w1 at *
 obtain ⟨n0,hn0⟩:∃ n,n=w1.heap.size:=⟨_,rfl⟩
 have wn:w.heap.size<n0:=by rw [hn0];exact WS.out
 have pn:p<n0:=by omega
 have bn:b<n0:=by omega
 replace WS:=hid (Nat.le_of_eq hn0)
 clear hn0 HS0
 have IC:=hid (rin_ok HS.out HBD.out hd)
 go_upto_region 3 with (go_at_call 58;with_reducible refine Calls.mono IC.out ?_;rintro e w2 ⟨rfl,h2,g2⟩;replace HS:=hid h2;replace HG:=hid (HG.out.trans g2);replace HB:=hid (HB.out.gr g2 (by omega));replace WS:=hid (Nat.le_trans WS.out g2.size);clear h2 g2 IC)
 have JC:=hid (IH.out _ HS.out)
 go_upto_region 4 with (go_at_call 59;with_reducible refine Calls.mono JC.out ?_;rintro e w3 h3;obtain ⟨g3,s3,sa3,sm3,sc3,rfl,nv3⟩:=h3.parts;have NV3:=hid nv3;replace HG:=hid (HG.out.trans g3);replace HB:=hid (HB.out.gr g3 (by omega));have WO3:=WS;replace WS:=hid (Nat.le_trans WS.out g3.size);replace HS:=hid s3;clear h3 g3 s3 nv3 JC)
 have BA:=hid (Bx.new (m:=n0) NV3.out WO3.out WS.out 31)
 have AL3:=hid (show Below w3.heap.size w3 (w3.alloc (.cells #[.string r.1.op,.string r.1.name,.int .i64 (r.1.kind:Nat),.int .i64 r.1.n,.int .i64 (r.1.pl:Nat),.slice sa3 sm3 sc3] 31)) from (Below.refl _ _).alloc (Nat.le_refl _) _)
 replace HS:=hid (HS.out.next AL3.out)
 replace HG:=hid (HG.out.below AL3.out)
 replace HB:=hid (HB.out.next AL3.out)
 replace WS:=hid (Nat.le_trans WS.out AL3.out.size)
 have ge3:n0≤w3.heap.size:=BA.out.l
 clear AL3 NV3 WO3
 generalize World.alloc w3 _=y3 at *
 generalize w3.heap.size=bBA at *
 obtain ⟨BA0,BA1,BA2,BA3,BA4,BA5,_⟩:=BA.out.b
 have OC:=hid (rout_any HS.out hd)
 go_upto_region 5 with (go_at_call 60;with_reducible refine Calls.mono OC.out ?_;rintro e w4 ⟨rfl,h4,g4⟩;replace HS:=hid h4;replace HG:=hid (HG.out.trans g4);replace HB:=hid (HB.out.gr g4 (by omega));replace WS:=hid (Nat.le_trans WS.out g4.size);replace BA:=hid (BA.out.gr g4 pn);clear h4 g4 OC)
 obtain ⟨u0,u1,u2,u3,u4,u5,uz⟩:=HB.out
 obtain ⟨BA0,BA1,BA2,BA3,BA4,BA5,_⟩:=BA.out.b
 have BF:=hid (HB.out.sets (.string r.1.op) (.string r.1.name) (.int .i64 (r.1.kind:Nat)) (.int .i64 r.1.n) (.int .i64 (r.1.pl:Nat)) (.slice sa3 sm3 sc3))
 have SF:=hid (HS.out.put6 (q:=w.heap.size) (by omega) (by omega) (.string r.1.op) (.string r.1.name) (.int .i64 (r.1.kind:Nat)) (.int .i64 r.1.n) (.int .i64 (r.1.pl:Nat)) (.slice sa3 sm3 sc3))
 have GF:=hid (HG.out.put6 (q:=w.heap.size) (by omega) (.string r.1.op) (.string r.1.name) (.int .i64 (r.1.kind:Nat)) (.int .i64 r.1.n) (.int .i64 (r.1.pl:Nat)) (.slice sa3 sm3 sc3))
 have NF:=hid (Nd.put6x (q:=w.heap.size) (m:=w.heap.size) BA.out.d wn (by omega) (.string r.1.op) (.string r.1.name) (.int .i64 (r.1.kind:Nat)) (.int .i64 r.1.n) (.int .i64 (r.1.pl:Nat)) (.slice sa3 sm3 sc3))
 go_wp2
 generalize World.setCell _ ⟨w.heap.size,5,none⟩ _=wf at *
 obtain ⟨q0,q1,q2,q3,q4,q5,_⟩:=BF.out
 exact bodyPost_ret (v:=.agg #[.string r.1.op,.string r.1.name,.int .i64 (r.1.kind:Nat),.int .i64 r.1.n,.int .i64 (r.1.pl:Nat),.slice sa3 sm3 sc3]) (by simp [results,Tryd.results45,go_sem,q0,q1,q2,q3,q4,q5]) rfl ⟨GF.out,SF.out,_,rfl,_,rfl,NF.out⟩
end Go.Proofs.YtbeahnehjannpaaDoor
