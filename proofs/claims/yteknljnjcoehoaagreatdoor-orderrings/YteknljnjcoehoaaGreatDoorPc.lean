/- Parts of the proof. -/
import Derived.Test.YteknljnjcoehoaaGreatDoorPb
import Derived.Test.YteknljnjcoehoaaGreatDoorKv
import Derived.BigQuiet
import Derived.Deep.RegionHeld3
namespace Go.Proofs.YteknljnjcoehoaaGreatDoor
open Go.RowKit
set_option linter.unusedVariables false
set_option linter.unusedSimpArgs false
theorem tk {P:Program} {md:Region.Mode} {ops:Array Oper} {Q:Exit→Act→World→Prop} {S:World→Prop} {l:List Oper} {oi:Oper} {fuel:Nat} {listed:Array Bool} {a:Act} {w:World} (i:Nat) (v:Value) (d:Tmp) (hl:ops=l.toArray) (hi:l[i]?=some oi) (hd:oi.dst=some d)
  (hk:(Region.noSelect ops && Region.free md ops listed i && (Region.ready md ops listed).contains i)=true) (hQ:∀ c a w,Q (.panic c) (a.put oi.dst v) w→Q (.panic c) a w) (hw:Region.wanted oi (yielded ops a.tmps)=true) (hS:S w) (hy:∀ W,S W→(execOp a.eval oi).run P W=.ok (.value v) W)
  (h:wpAnyH P md ops Q S fuel (listed.setIfInBounds i true) (a.put (some d) v) w):wpAnyH P md ops Q S (fuel+1) listed a w:=by
 simp only [Bool.and_eq_true] at hk
 exact take2 hl hi hd hk.1.1 hk.1.2 hk.2 hQ (Or.inl ⟨hw,hy⟩) hS h
theorem celB {w W:World} (h:Below w.heap.size w W) {a:Addr} {u:Value} (hc:w.cell? a=some u):W.cell? a=some u:=(World.cell?_of_block (h.block a.block (World.block_lt_of_cell? _ _ hc))).trans hc
def NS (w:World) (i:Nat):Prop:=∀ cs fr,w.heap[i]?≠some (.cells cs 9 fr)
theorem NS.kept {w w':World} {i:Nat} (h:NS w i) (e:w'.heap[i]?=w.heap[i]?):NS w' i:=fun cs fr=>by rw [e];exact h cs fr
theorem NS.new (w:World) (cs:Array Value) (T:TypeId) (h:T≠9):NS (w.alloc (.cells cs T)) w.heap.size:=fun cs2 fr e=>by
 rw [heap_alloc_new] at e
 injection e with e
 injection e with _ e2 _
 exact h e2
theorem Ow.ns {w:World} {B:Nat} {v:Value} {vs:List Value} (h:Ow w 9 B v vs) {i:Nat} (hn:i<B∨NS w i):v.ownBlock≠some i:=by
 intro e
 rcases h.row.2 with ⟨h1,_⟩ | ⟨g,cap,cur,rfl,hb,hg,_⟩
 ·subst h1;cases e
 ·simp [Value.ownBlock] at e
  subst e
  rcases hn with hn | hn
  ·omega
  ·exact hn _ _ hg
structure Go2 (w w':World) (B b p:Nat):Prop where
 os:w'.os=w.os
 tape:w'.tape=w.tape
 output:w'.output=w.output
 size:w.heap.size≤w'.heap.size
 kp:∀ i,i<w.heap.size→i≠b→i≠p→i<B∨NS w i→w'.heap[i]?=w.heap[i]?
theorem Go2.refl (w:World) (B b p:Nat):Go2 w w B b p:=⟨rfl,rfl,rfl,Nat.le_refl _,fun _ _ _ _ _=>rfl⟩
theorem or_kept {a b:World} {i B:Nat} (n:i<B∨NS a i) (e:b.heap[i]?=a.heap[i]?):i<B∨NS b i:=n.imp id fun n=>n.kept e
theorem Go2.trans {a b c:World} {B x p:Nat} (h:Go2 a b B x p) (k:Go2 b c B x p):Go2 a c B x p :=
 ⟨k.os.trans h.os,k.tape.trans h.tape,k.output.trans h.output,Nat.le_trans h.size k.size,fun i hi n m o=>(k.kp i (Nat.lt_of_lt_of_le hi h.size) n m (or_kept o (h.kp i hi n m o))).trans (h.kp i hi n m o)⟩
theorem Go2.below {a b c:World} {B x p:Nat} (h:Go2 a b B x p) (k:Below b.heap.size b c):Go2 a c B x p :=
 h.trans ⟨k.os,k.tape,k.output,k.size,fun i hi _ _ _=>k.block i hi⟩
theorem Go2.grown {a b c:World} {B x p:Nat} (h:Go2 a b B x p) (k:b.grownBy c (some x)):Go2 a c B x p :=
 h.trans ⟨k.os,k.tape,k.output,k.size,fun i hi n _ _=>k.block i hi (fun e=>n (by injection e))⟩
theorem Go2.row {a b c:World} {B x p:Nat} {v:Value} {vs:List Value} (h:Go2 a b B x p) (o:Ow b 9 B v vs) (k:b.grownBy c v.ownBlock):Go2 a c B x p :=
 h.trans ⟨k.os,k.tape,k.output,k.size,fun i hi _ _ n=>k.block i hi (fun e=>o.ns n e.symm)⟩
theorem Go2.set {a b:World} {B x p i:Nat} (h:Go2 a b B x p) (u:Value):Go2 a (b.setCell ⟨p,i,none⟩ u) B x p :=
 h.trans ⟨rfl,rfl,rfl,by simp,fun k _ _ m _=>Below.heap_setCell b ⟨p,i,none⟩ u k (fun e=>m e)⟩
theorem Go2.bel0 {w w':World} {B b p:Nat} (h:Go2 w w' B b p) {C:Nat} (hC:C≤w.heap.size) (h0:C≤B) (h1:C≤b) (h2:C≤p):Below C w w' :=
 ⟨h.os,h.tape,h.output,h.size,fun i hi=>h.kp i (by omega) (by omega) (by omega) (Or.inl (by omega))⟩
structure Fdr (w:World) (b0 b1 p B:Nat) (rn loc:List ByteArray) (v:Value) (l:List ByteArray):Prop where
 c0:w.cell? ⟨p,0,none⟩=some (.map (some b0))
 c1:w.cell? ⟨p,1,none⟩=some (.map (some b1))
 c2:w.cell? ⟨p,2,none⟩=some v
 fz:∀ i,w.frozen? ⟨p,i,none⟩=false
 row:Ow w 9 B v (sv l)
 m0:∃ m,MapS w b0 m∧∀ nm,(atM m nm).getD (.int .i64 0)=.int .i64 (cntK rn nm:Nat)
 m1:∃ m,MapS w b1 m∧∀ nm,(atM m nm).getD (.int .i64 0)=.int .i64 (cntK loc nm:Nat)
 lt:b0<b1∧b1<p∧p<B
 sz:B≤w.heap.size
theorem Fdr.pl {w:World} {b0 b1 p B:Nat} {rn loc:List ByteArray} {v:Value} {l:List ByteArray} (h:Fdr w b0 b1 p B rn loc v l):p<w.heap.size:=World.block_lt_of_cell? _ _ h.c0
theorem Fdr.next {w w':World} {b0 b1 p B:Nat} {rn loc:List ByteArray} {v:Value} {l:List ByteArray} (h:Fdr w b0 b1 p B rn loc v l) (k:Below w.heap.size w w'):Fdr w' b0 b1 p B rn loc v l:=by
 have lt:=h.lt
 have pl:=h.pl
 have e:∀ i,w'.cell? ⟨p,i,none⟩=w.cell? ⟨p,i,none⟩:=fun i=>World.cell?_of_block (a:=⟨p,i,none⟩) (k.block p pl)
 refine ⟨by rw [e];exact h.c0,by rw [e];exact h.c1,by rw [e];exact h.c2,fun i=>by rw [World.frozen?_of_block (a:=⟨p,i,none⟩) (k.block p pl)];exact h.fz i,h.row.below k,?_,?_,lt,Nat.le_trans h.sz k.size⟩
 ·obtain ⟨m,a,b⟩:=h.m0;exact ⟨m,a.kept (k.block b0 (by omega)),b⟩
 ·obtain ⟨m,a,b⟩:=h.m1;exact ⟨m,a.kept (k.block b1 (by omega)),b⟩
theorem Fdr.k0 {w:World} {b0 b1 p B:Nat} {rn loc:List ByteArray} {v:Value} {l:List ByteArray} (h:Fdr w b0 b1 p B rn loc v l) (nm:ByteArray):(Instr.lookup 97 (.map (some b0)) (.string nm) false).run Tryz.prog w=.ok (.int .i64 (cntK rn nm:Nat)) w:=by
 obtain ⟨m,a,b⟩:=h.m0
 rw [lookM1 w b0 nm m a umI zInt,b nm]
theorem Fdr.k1 {w:World} {b0 b1 p B:Nat} {rn loc:List ByteArray} {v:Value} {l:List ByteArray} (h:Fdr w b0 b1 p B rn loc v l) (nm:ByteArray):(Instr.lookup 97 (.map (some b1)) (.string nm) false).run Tryz.prog w=.ok (.int .i64 (cntK loc nm:Nat)) w:=by
 obtain ⟨m,a,b⟩:=h.m1
 rw [lookM1 w b1 nm m a umI zInt,b nm]
theorem Fdr.swap {w w':World} {b0 b1 p B:Nat} {rn loc loc':List ByteArray} {v:Value} {l:List ByteArray} (h:Fdr w b0 b1 p B rn loc v l) (g:w.grownBy w' (some b1)) (m:∃ m,MapS w' b1 m∧∀ nm,(atM m nm).getD (.int .i64 0)=.int .i64 (cntK loc' nm:Nat)):Fdr w' b0 b1 p B rn loc' v l:=by
 have lt:=h.lt
 have pl:=h.pl
 have hk:∀ x,x<w.heap.size→x≠b1→w'.heap[x]?=w.heap[x]?:=fun x hx n=>g.block x hx (fun e=>n (by injection e))
 have e:∀ i,w'.cell? ⟨p,i,none⟩=w.cell? ⟨p,i,none⟩:=fun i=>World.cell?_of_block (a:=⟨p,i,none⟩) (hk p pl (by omega))
 refine ⟨by rw [e];exact h.c0,by rw [e];exact h.c1,by rw [e];exact h.c2,fun i=>by rw [World.frozen?_of_block (a:=⟨p,i,none⟩) (hk p pl (by omega))];exact h.fz i,h.row.grown g (fun i hi e=>by have:=(h.row.lt i hi).1;injection e with e;omega),?_,m,lt,Nat.le_trans h.sz g.size⟩
 obtain ⟨m,a,b⟩:=h.m0
 exact ⟨m,a.kept (hk b0 (by omega) (by omega)),b⟩
theorem Fdr.push {w:World} {b0 b1 p B:Nat} {rn loc:List ByteArray} {v:Value} {l:List ByteArray} (h:Fdr w b0 b1 p B rn loc v l) (nm:ByteArray):∃ w',(Instr.mapUpdate 97 (.map (some b1)) (.string nm) (.int .i64 ((cntK loc nm:Int)+1))).run Tryz.prog w=.ok () w'∧Fdr w' b0 b1 p B rn (nm :: loc) v l∧w.grownBy w' (some b1):=by
 obtain ⟨m,a,b⟩:=h.m1
 obtain ⟨w',r,m,g⟩:=storeM w b1 nm (.int .i64 ((cntK loc nm:Int)+1)) m a umI
 refine ⟨w',r,h.swap g ⟨_,m,fun j=>?_⟩,g⟩
 rw [at_set,cnt_cons]
 by_cases c:j=nm
 ·rw [if_pos c,if_pos c,c]
  simp [Int.add_comm]
 ·rw [if_neg c,if_neg c,b j]
  simp
theorem Fdr.pop {w:World} {b0 b1 p B:Nat} {rn loc:List ByteArray} {v:Value} {l:List ByteArray} {nm:ByteArray} (h:Fdr w b0 b1 p B rn (nm :: loc) v l):∃ w',(Instr.mapUpdate 97 (.map (some b1)) (.string nm) (.int .i64 ((cntK (nm :: loc) nm:Int) - 1))).run Tryz.prog w=.ok () w'∧Fdr w' b0 b1 p B rn loc v l∧w.grownBy w' (some b1):=by
 obtain ⟨m,a,b⟩:=h.m1
 obtain ⟨w',r,m,g⟩:=storeM w b1 nm (.int .i64 ((cntK (nm :: loc) nm:Int) - 1)) m a umI
 refine ⟨w',r,h.swap g ⟨_,m,fun j=>?_⟩,g⟩
 rw [at_set]
 by_cases c:j=nm
 ·rw [if_pos c,c,cnt_cons,if_pos rfl]
  simp
  omega
 ·rw [if_neg c,b j,cnt_cons,if_neg c]
  simp
theorem Ow.setc {w:World} {T:TypeId} {base:Nat} {v:Value} {vs:List Value} (h:Ow w T base v vs) {p i:Nat} (hp:p<base) (u:Value):Ow (w.setCell ⟨p,i,none⟩ u) T base v vs :=
 h.grown (row:=some p) ⟨rfl,rfl,rfl,by simp,fun k _ hne=>Below.heap_setCell w ⟨p,i,none⟩ u k (fun e=>hne (by rw [show k=p from e]))⟩ (fun g hg e=>by have:=(h.lt g hg).1;injection e with e;omega)
theorem Fdr.put {w w':World} {b0 b1 p B:Nat} {rn loc:List ByteArray} {v v':Value} {l l':List ByteArray} (h:Fdr w b0 b1 p B rn loc v l) (g:w.grownBy w' v.ownBlock) (o:Ow w' 9 B v' (sv l')):Fdr (w'.setCell ⟨p,2,none⟩ v') b0 b1 p B rn loc v' l':=by
 have lt:=h.lt
 have pl:=h.pl
 have sz:=h.sz
 have hk:∀ x,x<B→w'.heap[x]?=w.heap[x]?:=fun x hx=>g.block x (by omega) (fun e=>h.row.ns (Or.inl hx) e.symm)
 have hk2:∀ x,x<B→x≠p→(w'.setCell ⟨p,2,none⟩ v').heap[x]?=w.heap[x]?:=fun x hx n=>(Below.heap_setCell w' ⟨p,2,none⟩ v' x n).trans (hk x hx)
 have e:∀ i,w'.cell? ⟨p,i,none⟩=w.cell? ⟨p,i,none⟩:=fun i=>World.cell?_of_block (a:=⟨p,i,none⟩) (hk p (by omega))
 refine ⟨(cell_ne (by omega)).trans ((e 0).trans h.c0),(cell_ne (by omega)).trans ((e 1).trans h.c1),cell_eq ((e 2).trans h.c2),fun i=>?_,o.setc (by omega) _,?_,?_,lt,by have:=g.size;simp;omega⟩
 ·rw [World.frozen?_setCell,World.frozen?_of_block (a:=⟨p,i,none⟩) (hk p (by omega))]
  exact h.fz i
 ·obtain ⟨m,a,b⟩:=h.m0;exact ⟨m,a.kept (hk2 b0 (by omega) (by omega)),b⟩
 ·obtain ⟨m,a,b⟩:=h.m1;exact ⟨m,a.kept (hk2 b1 (by omega) (by omega)),b⟩
end Go.Proofs.YteknljnjcoehoaaGreatDoor
