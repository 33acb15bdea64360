/- Parts of the proof. -/
import Derived.Test.YtonmdlhlkacppaaDoorKL
import Derived.BigQuiet
import Derived.Deep.RegionHeld3
import Derived.Deep.CutBlock
import Derived.Test.YtonmdlhlkacppaaDoorKU
import Derived.Maps.AppendAt
import Derived.Laws.AppendOwnNone
import Derived.Laws.OwnMore
import Derived.Deep.RegionLaw
import Derived.Deep.OwnRows
import Derived.Deep.WholeRow
import Derived.Test.YtonmdlhlkacppaaDoorKM
namespace Go.Proofs.YtonmdlhlkacppaaDoor
open Go.RowKit
set_option linter.unusedVariables false
set_option linter.unusedSimpArgs false
structure Ck (w:World) (p:Nat) (t:Tr) (sv la ki:Value) (o:Option Nat):Prop where
 c0:w.cell? ⟨p,0,none⟩=some (.string t.op)
 c1:w.cell? ⟨p,1,none⟩=some (.string t.name)
 c2:w.cell? ⟨p,2,none⟩=some (.int .i64 (t.kind:Nat))
 c3:w.cell? ⟨p,3,none⟩=some (.int .i64 t.n)
 c4:w.cell? ⟨p,4,none⟩=some (.int .i64 (t.pl:Nat))
 c5:w.cell? ⟨p,5,none⟩=some sv
 c6:w.cell? ⟨p,6,none⟩=some la
 c7:w.cell? ⟨p,7,none⟩=some ki
 c8:w.cell? ⟨p,8,none⟩=some (.int .i64 (bd o))
 fz:∀ i,w.frozen? ⟨p,i,none⟩=false
theorem Ck.pl {w:World} {p:Nat} {t:Tr} {sv la ki:Value} {o:Option Nat} (h:Ck w p t sv la ki o):p<w.heap.size:=World.block_lt_of_cell? _ _ h.c0
theorem Ck.keep {w w':World} {p:Nat} {t:Tr} {sv la ki:Value} {o:Option Nat} (h:Ck w p t sv la ki o) (e:w'.heap[p]?=w.heap[p]?):Ck w' p t sv la ki o:=by
 have f:∀ i,w'.cell? ⟨p,i,none⟩=w.cell? ⟨p,i,none⟩:=fun i=>World.cell?_of_block (a:=⟨p,i,none⟩) e
 exact ⟨by rw [f];exact h.c0,by rw [f];exact h.c1,by rw [f];exact h.c2,by rw [f];exact h.c3,by rw [f];exact h.c4,by rw [f];exact h.c5,by rw [f];exact h.c6,by rw [f];exact h.c7,by rw [f];exact h.c8,fun i=>by rw [World.frozen?_of_block (a:=⟨p,i,none⟩) e];exact h.fz i⟩
theorem Ck.next {w w':World} {p:Nat} {t:Tr} {sv la ki:Value} {o:Option Nat} (h:Ck w p t sv la ki o) (k:Below w.heap.size w w'):Ck w' p t sv la ki o:=h.keep (k.block p h.pl)
theorem Ck.bad {w:World} {p:Nat} {t:Tr} {sv la ki:Value} {o:Option Nat} (h:Ck w p t sv la ki o) (a:Nat):Ck (w.setCell ⟨p,8,none⟩ (.int .i64 (a:Nat))) p t sv la ki (some a) :=
 ⟨(cell_ne (by omega)).trans h.c0,(cell_ne (by omega)).trans h.c1,(cell_ne (by omega)).trans h.c2,(cell_ne (by omega)).trans h.c3,(cell_ne (by omega)).trans h.c4,(cell_ne (by omega)).trans h.c5,(cell_ne (by omega)).trans h.c6,(cell_ne (by omega)).trans h.c7,cell_eq h.c8,fun i=>by simpa using h.fz i⟩
theorem Ck.loc {w:World} {p:Nat} {t:Tr} {sv la ki:Value} {o:Option Nat} (h:Ck w p t sv la ki o) (u:Value):Ck (w.setCell ⟨p,6,none⟩ u) p t sv u ki o :=
 ⟨(cell_ne (by omega)).trans h.c0,(cell_ne (by omega)).trans h.c1,(cell_ne (by omega)).trans h.c2,(cell_ne (by omega)).trans h.c3,(cell_ne (by omega)).trans h.c4,(cell_ne (by omega)).trans h.c5,cell_eq h.c6,(cell_ne (by omega)).trans h.c7,(cell_ne (by omega)).trans h.c8,fun i=>by simpa using h.fz i⟩
theorem Ck.kin {w:World} {p:Nat} {t:Tr} {sv la ki:Value} {o:Option Nat} (h:Ck w p t sv la ki o) (u:Value):Ck (w.setCell ⟨p,7,none⟩ u) p t sv la u o :=
 ⟨(cell_ne (by omega)).trans h.c0,(cell_ne (by omega)).trans h.c1,(cell_ne (by omega)).trans h.c2,(cell_ne (by omega)).trans h.c3,(cell_ne (by omega)).trans h.c4,(cell_ne (by omega)).trans h.c5,(cell_ne (by omega)).trans h.c6,cell_eq h.c7,(cell_ne (by omega)).trans h.c8,fun i=>by simpa using h.fz i⟩
set_option maxRecDepth 100000 in
set_option maxHeartbeats 4000000 in
theorem fail11_any {w:World} {p:Nat} {t:Tr} {sv la ki:Value} {o:Option Nat} (h:Ck w p t sv la ki o) (e:Tr) (v:Value) (hv:v.oneCell'=true) :
  Calls Tryd.prog 48 #[.pointer (some ⟨p,0,none⟩),.agg #[.string e.op,.string e.name,.int .i64 (e.kind:Nat),.int .i64 e.n,.int .i64 (e.pl:Nat),v]] w fun x w'=>x=.returned (.int .i64 0)∧Ck w' p t sv la ki (some (o.getD e.pl))∧Gr w w' p:=by
 have B1:=hid (show Below w.heap.size w (w.alloc (.cells #[.string e.op,.string e.name,.int .i64 (e.kind:Nat),.int .i64 e.n,.int .i64 (e.pl:Nat),v] 29)) from (Below.refl _ _).alloc (Nat.le_refl _) _)
 have X1:=hid (B6.new w 29 (.string e.op) (.string e.name) (.int .i64 (e.kind:Nat)) (.int .i64 e.n) (.int .i64 (e.pl:Nat)) (v))
 have HC:=hid (h.next B1.out)
 have HG:=hid ((Gr.refl w p).below B1.out)
 clear h
 go_enter Tryd.func48,Tryd.ntmps48
 go_upto_region 1 with fail
 generalize World.alloc w _=w1 at *
 obtain ⟨x0,x1,x2,x3,x4,x5,xz⟩:=X1.out
 clear x0 x1 x2 x3 x5 xz
 cases o with
 | some a =>
  have c8:w1.cell? ⟨p,8,none⟩=some (.int .i64 (a:Nat)):=HC.out.c8
  have z:¬ (a:Int)<0:=by omega
  go_wp2_with fail
  go_returns
  exact ⟨rfl,HC.out,HG.out⟩
 | none =>
  have c8:w1.cell? ⟨p,8,none⟩=some (.int .i64 (-1)):=HC.out.c8
  have z8:=HC.out.fz 8
  go_wp2_with fail
  go_returns
  exact ⟨rfl,HC.out.bad _,HG.out.set _⟩
structure Sl (w:World) (a:Option Addr) (n cap:Nat) (vs:List Value):Prop where
 len:vs.length=n
 fits:n≤cap
 max:cap≤maxLen
 nil:a=none→cap=0
 cell:∃ b o:Nat,(0<n→a=some ⟨b,o,none⟩)∧∀ i u,vs[i]?=some u→w.cell? ⟨b,o+i,none⟩=some u
 one:∀ u ∈ vs,u.oneCell'=true
theorem lt_of_some {α:Type} {l:List α} {i:Nat} {u:α} (h:l[i]?=some u):i<l.length:=by
 rcases Nat.lt_or_ge i l.length with q | q
 ·exact q
 ·rw [List.getElem?_eq_none q] at h;cases h
theorem Sl.old {w:World} {a:Option Addr} {n cap:Nat} {vs:List Value} (h:Sl w a n cap vs):0<n→∀ x,a=some x→x.block<w.heap.size:=by
 intro p x hx
 obtain ⟨b,o,h1,h2⟩:=h.cell
 have hl:=h.len
 have:=World.block_lt_of_cell? _ _ (h2 0 _ (List.getElem?_eq_getElem (show 0<vs.length by omega)))
 rw [h1 p] at hx
 simp at hx
 subst hx
 exact this
theorem Sl.kept {w w':World} {a:Option Addr} {n cap:Nat} {vs:List Value} (h:Sl w a n cap vs) (hk:0<n→∀ x,a=some x→w'.heap[x.block]?=w.heap[x.block]?):Sl w' a n cap vs:=by
 obtain ⟨b,o,h1,h2⟩:=h.cell
 refine ⟨h.len,h.fits,h.max,h.nil,⟨b,o,h1,fun i u hi=>?_⟩,h.one⟩
 have hl:=h.len
 have:=lt_of_some hi
 have:=hk (by omega) _ (h1 (by omega))
 rw [World.cell?_of_block (w:=w) (a:=⟨b,o+i,none⟩) this]
 exact h2 i u hi
theorem Sl.below {w w':World} {a:Option Addr} {n cap:Nat} {vs:List Value} (h:Sl w a n cap vs) (hb:Below w.heap.size w w'):Sl w' a n cap vs :=
 h.kept fun p x hx=>hb.block x.block (h.old p x hx)
theorem Sl.grown {w w':World} {a:Option Addr} {n cap:Nat} {vs:List Value} {row:Option Nat} (h:Sl w a n cap vs) (hg:w.grownBy w' row) (hne:0<n→∀ x,a=some x→some x.block≠row):Sl w' a n cap vs :=
 h.kept fun p x hx=>hg.block x.block (h.old p x hx) (hne p x hx)
theorem Sl.none_nil {w:World} {n cap:Nat} {vs:List Value} (h:Sl w none n cap vs):n=0∧cap=0∧vs=[]:=by
 have c:=h.nil rfl
 have f:=h.fits
 exact ⟨by omega,c,List.length_eq_zero_iff.1 (by rw [h.len];omega)⟩
theorem Sl.empty (w:World):Sl w none 0 0 []:=⟨rfl,Nat.le_refl _,Nat.zero_le _,fun _=>rfl,⟨0,0,fun p=>absurd p (Nat.lt_irrefl 0),fun i u hi=>by simp at hi⟩,fun u hu=>by simp at hu⟩
theorem Sl.at {w:World} {a:Option Addr} {n cap:Nat} {vs:List Value} (h:Sl w a n cap vs) (p:0<n):∃ b o:Nat,a=some ⟨b,o,none⟩∧∀ i u,vs[i]?=some u→w.cell? ⟨b,o+i,none⟩=some u:=by
 obtain ⟨b,o,h1,h2⟩:=h.cell
 exact ⟨b,o,h1 p,h2⟩
theorem Sl.cells {w:World} {b o n cap:Nat} {vs:List Value} (h:Sl w (some ⟨b,o,none⟩) n cap vs):∀ i u,vs[i]?=some u→w.cell? ⟨b,o+i,none⟩=some u:=by
 intro i u hi
 have hl:=h.len
 have:=lt_of_some hi
 obtain ⟨b',o',h1,h2⟩:=h.cell
 have e:=h1 (by omega)
 simp at e
 obtain ⟨rfl,rfl⟩:=e
 exact h2 i u hi
theorem Sl.take {w:World} {b o n cap:Nat} {vs:List Value} (h:Sl w (some ⟨b,o,none⟩) n cap vs) {k:Nat} (hk:k≤n):Sl w (some ⟨b,o,none⟩) k cap (vs.take k):=by
 have hl:=h.len
 have hf:=h.fits
 have hc:=h.cells
 refine ⟨by simp;omega,by omega,h.max,fun e=>by simp at e,⟨b,o,fun _=>rfl,fun i u hi=>?_⟩,fun u hu=>h.one u (List.mem_of_mem_take hu)⟩
 have hik:i<k:=by have:=lt_of_some hi;simp at this;omega
 rw [List.getElem?_take_of_lt hik] at hi
 exact hc i u hi
theorem Sl.drop {w:World} {b o n cap:Nat} {vs:List Value} (h:Sl w (some ⟨b,o,none⟩) n cap vs) {k:Nat} (hk:k≤n) {o':Nat} (ho:k<n→o'=o+k):Sl w (some ⟨b,o',none⟩) (n - k) (cap - k) (vs.drop k):=by
 have hl:=h.len
 have hf:=h.fits
 have hm:=h.max
 have hc:=h.cells
 refine ⟨by simp;omega,by omega,by omega,fun e=>by simp at e,⟨b,o',fun _=>rfl,fun i u hi=>?_⟩,fun u hu=>h.one u (List.mem_of_mem_drop hu)⟩
 have hik:i<n - k:=by have:=lt_of_some hi;simp at this;omega
 rw [List.getElem?_drop] at hi
 rw [ho (by omega),Nat.add_assoc]
 exact hc (k+i) u hi
theorem Sl.news {w:World} {x:Addr} {n cap:Nat} {vs:List Value} (h:Sl w (some x) n cap vs):∀ j u,vs[j]?=some u→w.cell? (x.add j)=some u:=by
 intro j u hj
 have hl:=h.len
 have:=lt_of_some hj
 obtain ⟨b,o,h1,h2⟩:=h.cell
 have e:=h1 (by omega)
 simp at e
 subst e
 have hplain:(⟨b,o,none⟩:Addr).add j=⟨b,o+j,none⟩:=by unfold Addr.add;split <;> simp_all
 rw [hplain]
 exact h2 j u hj
structure Ow (w:World) (T:TypeId) (base:Nat) (v:Value) (vs:List Value):Prop where
 row:w.ownsRow base T 1 v vs.length vs
 one:∀ u ∈ vs,u.oneCell'=true
theorem Ow.sl {w:World} {T:TypeId} {base:Nat} {v:Value} {vs:List Value} (h:Ow w T base v vs):∃ a cap,v=.slice a vs.length cap∧Sl w a vs.length cap vs∧(∀ x,a=some x→base≤x.block∧x.block<w.heap.size)∧(a=none∨∃ g,a=some ⟨g,0,none⟩):=by
 rcases h.row.2 with ⟨hv,h0⟩ | ⟨g,cap,cur,hv,hb,hg,hn,hm,hs,ht⟩
 ·have:vs=[]:=List.length_eq_zero_iff.1 h0
  subst this
  exact ⟨none,0,hv,Sl.empty w,fun x hx=>by simp at hx,Or.inl rfl⟩
 ·have gl:=(Array.getElem?_eq_some_iff.1 hg).1
  refine ⟨_,cap,hv,⟨rfl,hn,hm,fun e=>by simp at e,⟨g,0,fun _=>rfl,fun i u hi=>?_⟩,h.one⟩,fun x hx=>by simp at hx;subst hx;exact ⟨hb,gl⟩,Or.inr ⟨g,rfl⟩⟩
  have hil:=lt_of_some hi
  rw [Nat.mul_one] at ht hs
  have e:cur[i]?=some u:=by
   rw [← ht,List.getElem?_take_of_lt hil,Array.getElem?_toList] at hi
   exact hi
  rw [Nat.zero_add]
  simp [World.cell?,hg,e]
theorem Ow.below {w w':World} {T:TypeId} {base:Nat} {v:Value} {vs:List Value} (h:Ow w T base v vs) (hb:Below w.heap.size w w'):Ow w' T base v vs:=by
 refine ⟨⟨h.row.1,?_⟩,h.one⟩
 rcases h.row.2 with hn | ⟨g,cap,cur,rfl,hbb,hgg,rest⟩
 ·exact .inl hn
 ·exact .inr ⟨g,cap,cur,rfl,hbb,by rw [hb.block g (Array.getElem?_eq_some_iff.1 hgg).1];exact hgg,rest⟩
theorem Ow.grown {w w':World} {T:TypeId} {base:Nat} {v:Value} {vs:List Value} {row:Option Nat} (h:Ow w T base v vs) (hg:w.grownBy w' row) (hne:∀ g,v.ownBlock=some g→some g≠row):Ow w' T base v vs:=by
 refine ⟨⟨h.row.1,?_⟩,h.one⟩
 rcases h.row.2 with hn | ⟨g,cap,cur,rfl,hbb,hgg,rest⟩
 ·exact .inl hn
 ·exact .inr ⟨g,cap,cur,rfl,hbb,by rw [hg.block g (Array.getElem?_eq_some_iff.1 hgg).1 (hne g rfl)];exact hgg,rest⟩
theorem Ow.mono {w:World} {T:TypeId} {base b':Nat} {v:Value} {vs:List Value} (h:Ow w T base v vs) (hb:b'≤base):Ow w T b' v vs:=by
 refine ⟨⟨h.row.1,?_⟩,h.one⟩
 rcases h.row.2 with hn | ⟨g,cap,cur,rfl,hbb,rest⟩
 ·exact .inl hn
 ·exact .inr ⟨g,cap,cur,rfl,by omega,rest⟩
theorem Ow.nil (w:World) (T:TypeId) (base:Nat):Ow w T base (.slice none 0 0) []:=⟨World.ownsRow_nil w base T 1,fun u hu=>by simp at hu⟩
theorem ow_empty (w:World) (T:TypeId):Ow (w.alloc (.cells #[] T)) T w.heap.size (.slice (some ⟨w.heap.size,0,none⟩) 0 0) [] :=
 ⟨⟨rfl,.inr ⟨w.heap.size,0,#[],rfl,Nat.le_refl _,heap_alloc_new w _,Nat.le_refl _,Nat.zero_le _,rfl,rfl⟩⟩,fun u hu=>by simp at hu⟩
theorem sl_new (w:World) (u:Value) (T:TypeId) (h:u.oneCell'=true):Sl (w.alloc (.cells #[u] T)) (some ⟨w.heap.size,0,none⟩) 1 1 [u] :=
 ⟨rfl,Nat.le_refl _,by decide,fun e=>by simp at e,⟨w.heap.size,0,fun _=>rfl,fun i x hi=>by
  have:=lt_of_some hi
  obtain rfl:i=0:=by simp at this;omega
  simp at hi
  subst hi
  simp⟩,fun x hx=>by simp at hx;subst hx;exact h⟩
def sv (ss:List ByteArray):List Value:=ss.map Value.string
theorem sv_len (ss:List ByteArray):(sv ss).length=ss.length:=by simp [sv]
theorem sv_app (a b:List ByteArray):sv (a ++ b)=sv a ++ sv b:=by simp [sv]
theorem sv_take (a:List ByteArray) (k:Nat):(sv a).take k=sv (a.take k):=by simp [sv]
theorem strInfo:(Tryd.prog.info? 9).map (fun i=>(i.zero,i.size,i.bytes))=some (some (.string ByteArray.empty),1,16):=by kernel_rfl
def Lies (w:World) (v v':Value):Prop:=v'.ownBlock=v.ownBlock∨v'.ownBlock=some w.heap.size
theorem run_append_sl {w:World} (S T:TypeId) (z:Value) (by0:Nat) (hu:Tryd.prog.underlying S=some (.slice T)) (hinf:(Tryd.prog.info? T).map (fun i=>(i.zero,i.size,i.bytes))=some (some z,1,by0)) (hz:z.cells.size=1) (hby:by0≤16) (ty:TypeId)
  (base:Nat) (v:Value) (xs:List Value) (hown:Ow w T base v xs) (ad:Option Addr) (m c:Nat) (vs:List Value) (hb:Sl w ad m c vs) (hbytes:xs.length+m≤1000000) (hbase:base≤w.heap.size) :
  ∃ v' w',(Builtin.append_ #[S,S] ty #[v,.slice ad m c]).run Tryd.prog w=.ok v' w'∧Ow w' T base v' (xs ++ vs)∧w.grownBy w' v.ownBlock∧Lies w v v':=by
 obtain ⟨i0,hi,hz0,hz1,hz2⟩:=info_parts hinf
 cases ad with
 | none =>
  obtain ⟨rfl,rfl,rfl⟩:=hb.none_nil
  exact ⟨v,w,run_append_owned_none w base S ty T i0 1 hu hi v _ _ hown.row,by simpa using hown,World.grownBy.refl w _,Or.inl rfl⟩
 | some ad =>
  obtain ⟨v',w',hr,h2,h3,h4,h5⟩:=run_append_own_at (P:=Tryd.prog) w base S ty T i0 z 1 by0 hu hi hz0 hz1 hz2 hz (by decide) v _ _ hown.row ad m c vs (by simp [hb.len]) hb.news hb.one (by unfold maxLen;omega) (by
   have:(xs.length+m)*by0≤1000000*16:=Nat.mul_le_mul hbytes hby
   omega) hbase
  refine ⟨v',w',hr,⟨?_,fun u hu=>?_⟩,h3,h5⟩
  ·have e:(xs ++ vs).length=xs.length+m:=by simp [hb.len]
   rw [e]
   exact h2
  ·rcases List.mem_append.1 hu with q | q
   ·exact hown.one u q
   ·exact hb.one u q
section
variable {w:World} {ops:Array Oper} {rest:List Oper} {o:Oper} {a:Act} {K:Act→World→Prop} {Q:Exit→Act→World→Prop} {E:Prop}
theorem wpList_append_sa (S T:TypeId) (z:Value) (by0:Nat) (hu:Tryd.prog.underlying S=some (.slice T)) (hinf:(Tryd.prog.info? T).map (fun i=>(i.zero,i.size,i.bytes))=some (some z,1,by0)) (hz:z.cells.size=1) (hby:by0≤16)
  (hgd:o.guard=none) (s x:Operand) (ho:o.op=.call { callee:=.builtin .append,args:=#[s,x],argTypes:=#[S,S] })
  (base:Nat) (v:Value) (xs:List Value) (hs:a.eval s=v) (hown:Ow w T base v xs) (ad:Option Addr) (m c:Nat) (vs:List Value) (hx:a.eval x=.slice ad m c) (hb:Sl w ad m c vs)
  (hbytes:xs.length+m≤1000000) (hbase:base≤w.heap.size)
  (h:∀ v' w',Ow w' T base v' (xs ++ vs)→w.grownBy w' v.ownBlock→Lies w v v'→wpList Tryd.prog ops Q rest (a.put o.dst v') w'):wpList Tryd.prog ops Q (o :: rest) a w:=by
 refine wpList_plain hgd fun K hK=>?_
 obtain ⟨v',w',hr,h2,h3,h4⟩:=run_append_sl S T z by0 hu hinf hz hby o.type base v xs hown ad m c vs hb hbytes hbase
 unfold Oper.wp execOp
 simp only [ho,resolve,invoke,builtin,Sem.run_bind,Sem.run_pure,Result.andThen_ok,List.map_toArray,List.map_cons,List.map_nil,hs,hx,hr]
 exact hK _ _ (h v' w' h2 h3 h4)
theorem step_append_sa (S T:TypeId) (z:Value) (by0:Nat) (hu:Tryd.prog.underlying S=some (.slice T)) (hinf:(Tryd.prog.info? T).map (fun i=>(i.zero,i.size,i.bytes))=some (some z,1,by0)) (hz:z.cells.size=1) (hby:by0≤16)
  (hgd:o.guard=none) (s x:Operand) (ho:o.op=.call { callee:=.builtin .append,args:=#[s,x],argTypes:=#[S,S] })
  (base:Nat) (v:Value) (xs:List Value) (hs:a.eval s=v) (hown:Ow w T base v xs) (ad:Option Addr) (m c:Nat) (vs:List Value) (hx:a.eval x=.slice ad m c) (hb:Sl w ad m c vs)
  (hbytes:xs.length+m≤1000000) (hbase:base≤w.heap.size)
  (h:∀ v' w',Ow w' T base v' (xs ++ vs)→w.grownBy w' v.ownBlock→Lies w v v'→K (a.put o.dst v') w'):if Region.wanted o (yielded ops a.tmps)=true then Oper.wp Tryd.prog o a w K Q else E:=by
 have hw:Region.wanted o (yielded ops a.tmps)=true:=by simp [Region.wanted,hgd]
 rw [if_pos hw]
 obtain ⟨v',w',hr,h2,h3,h4⟩:=run_append_sl S T z by0 hu hinf hz hby o.type base v xs hown ad m c vs hb hbytes hbase
 unfold Oper.wp execOp
 simp only [ho,resolve,invoke,builtin,Sem.run_bind,Sem.run_pure,Result.andThen_ok,List.map_toArray,List.map_cons,List.map_nil,hs,hx,hr]
 exact h v' w' h2 h3 h4
end
theorem Ow.lt {w:World} {T:TypeId} {base:Nat} {v:Value} {vs:List Value} (h:Ow w T base v vs):∀ g,v.ownBlock=some g→base≤g∧g<w.heap.size:=fun g hg=>h.row.lt g hg
theorem Lies.ne {w:World} {v v':Value} (h:Lies w v v') {g:Nat} (hlt:g<w.heap.size) (hne:v.ownBlock≠some g):v'.ownBlock≠some g:=by
 rcases h with h | h
 ·rw [h];exact hne
 ·rw [h];intro e;injection e with e;omega
theorem tr_op9 (op nm:ByteArray) (kd:Nat) (n:Int) (pl:Nat) (ts:List Tr):(Tr.nd op nm kd n pl ts).op=op:=rfl
theorem tr_name9 (op nm:ByteArray) (kd:Nat) (n:Int) (pl:Nat) (ts:List Tr):(Tr.nd op nm kd n pl ts).name=nm:=rfl
theorem tr_kind9 (op nm:ByteArray) (kd:Nat) (n:Int) (pl:Nat) (ts:List Tr):(Tr.nd op nm kd n pl ts).kind=kd:=rfl
theorem tr_n9 (op nm:ByteArray) (kd:Nat) (n:Int) (pl:Nat) (ts:List Tr):(Tr.nd op nm kd n pl ts).n=n:=rfl
theorem tr_pl9 (op nm:ByteArray) (kd:Nat) (n:Int) (pl:Nat) (ts:List Tr):(Tr.nd op nm kd n pl ts).pl=pl:=rfl
theorem tr_kids9 (op nm:ByteArray) (kd:Nat) (n:Int) (pl:Nat) (ts:List Tr):(Tr.nd op nm kd n pl ts).kids=ts:=rfl
def thr (n:Nat):List Value:=List.replicate n (.int .i64 3)
def ivs (l:List Int):List Value:=l.map (Value.int .i64)
theorem ivs_len (l:List Int):(ivs l).length=l.length:=by simp [ivs]
theorem thr_sz (n:Nat):(thr n).length=n:=by simp [thr]
theorem intInfo11:(Tryd.prog.info? 3).map (fun i=>(i.zero,i.size,i.bytes))=some (some (.int .i64 0),1,8):=by kernel_rfl
def Fr (w:World) (a a':Option Addr):Prop:=∀ x,a'=some x→(∃ y,a=some y∧y.block=x.block)∨w.heap.size≤x.block
theorem Fr.refl (w:World) (a:Option Addr):Fr w a a:=fun x h=>.inl ⟨x,h,rfl⟩
theorem Fr.trans {w w':World} {a b c:Option Addr} (h:Fr w a b) (k:Fr w' b c) (q:w.heap.size≤w'.heap.size):Fr w a c:=fun x e=>by
 rcases k x e with ⟨y,e2,f⟩ | f
 ·rcases h y e2 with ⟨z,e3,g⟩ | g
  ·exact .inl ⟨z,e3,g.trans f⟩
  ·exact .inr (by omega)
 ·exact .inr (by omega)
theorem Gr.bl {w w':World} {p:Nat} (h:Gr w w' p) {i:Nat} (hi:i<w.heap.size) (n:i≠p):w'.heap[i]?=w.heap[i]?:=h.block i hi (fun e=>n (by injection e))
structure Cq (w:World) (p:Nat) (S:Nat→Prop) (t:Tr) (sl:Value) (ls:List ByteArray) (la:Option Addr) (lc:Nat) (ka:Option Addr) (kc:Nat) (o:Option Nat):Prop where
 ck:Ck w p t sl (.slice la ls.length lc) (.slice ka ls.length kc) o
 rl:Sl w la ls.length lc (sv ls)
 rk:Sl w ka ls.length kc (thr ls.length)
 nl:∀ x,la=some x→x.block≠p∧x.block<w.heap.size
 nk:∀ x,ka=some x→x.block≠p∧x.block<w.heap.size
 nd:Nd w S sl t.kids
theorem Cq.keep {w w':World} {p:Nat} {S S':Nat→Prop} {t:Tr} {sl:Value} {ls:List ByteArray} {la:Option Addr} {lc:Nat} {ka:Option Addr} {kc:Nat} {o:Option Nat} (h:Cq w p S t sl ls la lc ka kc o) (hs:w.heap.size≤w'.heap.size) (hp:w'.heap[p]?=w.heap[p]?) (hl:∀ x,la=some x→w'.heap[x.block]?=w.heap[x.block]?) (hk:∀ x,ka=some x→w'.heap[x.block]?=w.heap[x.block]?) (hd:∀ g,S g→g<w.heap.size→S' g∧w'.heap[g]?=w.heap[g]?):Cq w' p S' t sl ls la lc ka kc o :=
 ⟨h.ck.keep hp,h.rl.kept (fun _ x e=>hl x e),h.rk.kept (fun _ x e=>hk x e),fun x e=>⟨(h.nl x e).1,by have:=(h.nl x e).2;omega⟩,fun x e=>⟨(h.nk x e).1,by have:=(h.nk x e).2;omega⟩,h.nd.keep hd⟩
theorem Cq.next {w w':World} {p:Nat} {S:Nat→Prop} {t:Tr} {sl:Value} {ls:List ByteArray} {la:Option Addr} {lc:Nat} {ka:Option Addr} {kc:Nat} {o:Option Nat} (h:Cq w p S t sl ls la lc ka kc o) (q:Below w.heap.size w w'):Cq w' p S t sl ls la lc ka kc o :=
 h.keep q.size (q.block _ h.ck.pl) (fun x e=>q.block _ (h.nl x e).2) (fun x e=>q.block _ (h.nk x e).2) (fun g s l=>⟨s,q.block g l⟩)
theorem Cq.sub {w:World} {p:Nat} {S S':Nat→Prop} {t:Tr} {sl:Value} {ls:List ByteArray} {la:Option Addr} {lc:Nat} {ka:Option Addr} {kc:Nat} {o:Option Nat} (h:Cq w p S t sl ls la lc ka kc o) (hs:∀ g,S g→g<w.heap.size→S' g):Cq w p S' t sl ls la lc ka kc o :=
 h.keep (Nat.le_refl _) rfl (fun _ _=>rfl) (fun _ _=>rfl) (fun g s l=>⟨hs g s l,rfl⟩)
theorem Cq.grown {w w':World} {p:Nat} {S:Nat→Prop} {t:Tr} {sl:Value} {ls:List ByteArray} {la:Option Addr} {lc:Nat} {ka:Option Addr} {kc:Nat} {o:Option Nat} {row:Option Nat} (h:Cq w p S t sl ls la lc ka kc o) (q:w.grownBy w' row) (hr:∀ g,row=some g→g≠p∧(∀ x,la=some x→x.block≠g)∧(∀ x,ka=some x→x.block≠g)∧¬ S g):Cq w' p S t sl ls la lc ka kc o :=
 h.keep q.size (q.block _ h.ck.pl (fun e=>(hr p e.symm).1 rfl)) (fun x e=>q.block _ (h.nl x e).2 (fun e2=>(hr _ e2.symm).2.1 x e rfl)) (fun x e=>q.block _ (h.nk x e).2 (fun e2=>(hr _ e2.symm).2.2.1 x e rfl)) (fun g s l=>⟨s,q.block g l (fun e2=>(hr _ e2.symm).2.2.2 s)⟩)
theorem Cq.bad {w:World} {p:Nat} {S:Nat→Prop} {t:Tr} {sl:Value} {ls:List ByteArray} {la:Option Addr} {lc:Nat} {ka:Option Addr} {kc:Nat} {o:Option Nat} (h:Cq w p S t sl ls la lc ka kc o) (hS:∀ g,S g→g≠p) {w':World} {f:Nat} (c:Ck w' p t sl (.slice la ls.length lc) (.slice ka ls.length kc) (some f)) (g:Gr w w' p):Cq w' p S t sl ls la lc ka kc (some f) :=
 ⟨c,h.rl.kept (fun _ x e=>g.bl (h.nl x e).2 (h.nl x e).1),h.rk.kept (fun _ x e=>g.bl (h.nk x e).2 (h.nk x e).1),fun x e=>⟨(h.nl x e).1,by have:=(h.nl x e).2;have:=g.size;omega⟩,fun x e=>⟨(h.nk x e).1,by have:=(h.nk x e).2;have:=g.size;omega⟩,h.nd.keep fun x s l=>⟨s,g.bl l (hS x s)⟩⟩
def fO (r:Int × Nat):Option Nat:=if r.1=0 then some r.2 else none
def OfE (p:Nat) (S:Nat→Prop) (t:Tr) (sl:Value) (ls:List ByteArray) (la ka:Option Addr) (o:Option Nat) (w w':World):Prop:=∃ (la':Option Addr) (lc':Nat) (ka':Option Addr) (kc':Nat),Cq w' p S t sl ls la' lc' ka' kc' o∧Fr w la la'∧Fr w ka ka'
theorem ofE {p:Nat} {S:Nat→Prop} {t:Tr} {sl:Value} {ls:List ByteArray} {la ka:Option Addr} {o:Option Nat} {w w':World} {la':Option Addr} {lc':Nat} {ka':Option Addr} {kc':Nat} (c:Cq w' p S t sl ls la' lc' ka' kc' o) (f1:Fr w la la') (f2:Fr w ka ka'):OfE p S t sl ls la ka o w w':=by
 unfold OfE
 exact ⟨la',lc',ka',kc',c,f1,f2⟩
def OfP (p:Nat) (S:Nat→Prop) (t:Tr) (sl:Value) (ls:List ByteArray) (la ka:Option Addr) (e:Tr) (w:World) (x:Ending) (w':World):Prop :=
 x=.returned (.int .i64 (chk t.kids [] ls.reverse e).1)∧OfE p S t sl ls la ka (fO (chk t.kids [] ls.reverse e)) w w'∧Gr w w' p
def OfC (p:Nat) (t:Tr) (sl:Value) (ls:List ByteArray) (e:Tr):Prop :=
 ∀ (S S2:Nat→Prop) (w:World) (la:Option Addr) (lc:Nat) (ka:Option Addr) (kc:Nat) (v:Value),(∀ g,S g→g≠p)→(∀ g,S2 g→g≠p)→Cq w p S t sl ls la lc ka kc none→Nd w S2 v e.kids→Calls Tryd.prog 30 #[.pointer (some ⟨p,0,none⟩),.agg #[.string e.op,.string e.name,.int .i64 (e.kind:Nat),.int .i64 e.n,.int .i64 (e.pl:Nat),v]] w fun x w'=>OfP p S t sl ls la ka e w x w'
structure OIn (w wr:World) (p q:Nat) (S S2:Nat→Prop) (t:Tr) (sl:Value) (ls:List ByteArray) (la ka:Option Addr) (op nm:ByteArray) (kd:Nat) (n:Int) (pl:Nat) (ev:Value) (ts:List Tr) (i:Nat) (l:List Int) (kv:Value):Prop where
 cq:∃ (la':Option Addr) (lc':Nat) (ka':Option Addr) (kc':Nat),Cq wr p (fun g=>S g∧g<q) t sl ls la' lc' ka' kc' none∧Fr w la la'∧Fr w ka ka'∧∀ g,kv.ownBlock=some g→(∀ x,la'=some x→x.block≠g)∧(∀ x,ka'=some x→x.block≠g)
 nd:Nd wr (fun g=>S2 g∧g<q) ev ts
 bx:B6 wr q (.string op) (.string nm) (.int .i64 (kd:Nat)) (.int .i64 n) (.int .i64 (pl:Nat)) ev
 ow:Ow wr 3 (q+1) kv (ivs l)
 gr:Gr w wr p
 ln:l.length=i
 cr:chkL t.kids [] ls.reverse false nm true ts=(match chkL t.kids [] ls.reverse false nm (decide (i=0)) (ts.drop i) with | .inl l2=>.inl (l ++ l2) | .inr f=>.inr f)
theorem Ow.gr {w w':World} {T:TypeId} {base p:Nat} {v:Value} {vs:List Value} (h:Ow w T base v vs) (g:Gr w w' p) (hp:p<base):Ow w' T base v vs:=by
 refine ⟨⟨h.row.1,?_⟩,h.one⟩
 rcases h.row.2 with hn | ⟨x,cap,cur,rfl,hbb,hgg,rest⟩
 ·exact .inl hn
 ·exact .inr ⟨x,cap,cur,rfl,hbb,by rw [g.bl (Array.getElem?_eq_some_iff.1 hgg).1 (by omega)];exact hgg,rest⟩
theorem Ow.cells {w:World} {T:TypeId} {base:Nat} {v:Value} {a:Value} {vs:List Value} (h:Ow w T base v (a :: vs)):∃ g c,v=.slice (some ⟨g,0,none⟩) (vs.length+1) c∧∀ i u,(a :: vs)[i]?=some u→w.cell? ⟨g,i,none⟩=some u:=by
 obtain ⟨x,c,e,sl,_,hg⟩:=h.sl
 rcases hg with rfl | ⟨g,rfl⟩
 ·have:=sl.none_nil.1;simp at this
 ·exact ⟨g,c,e,fun i u hi=>by have:=sl.cells i u hi;rwa [Nat.zero_add] at this⟩
theorem Ow.c1 {w:World} {T:TypeId} {base:Nat} {v:Value} {a:Value} (h:Ow w T base v [a]):∃ g c,v=.slice (some ⟨g,0,none⟩) 1 c∧w.cell? ⟨g,0,none⟩=some a:=by
 obtain ⟨g,c,e,k⟩:=h.cells
 exact ⟨g,c,e,k 0 _ rfl⟩
theorem Ow.c2 {w:World} {T:TypeId} {base:Nat} {v:Value} {a b:Value} (h:Ow w T base v [a,b]):∃ g c,v=.slice (some ⟨g,0,none⟩) 2 c∧w.cell? ⟨g,0,none⟩=some a∧w.cell? ⟨g,1,none⟩=some b:=by
 obtain ⟨g,c,e,k⟩:=h.cells
 exact ⟨g,c,e,k 0 _ rfl,k 1 _ rfl⟩
theorem Ow.c3 {w:World} {T:TypeId} {base:Nat} {v:Value} {a b d:Value} (h:Ow w T base v [a,b,d]):∃ g c,v=.slice (some ⟨g,0,none⟩) 3 c∧w.cell? ⟨g,0,none⟩=some a∧w.cell? ⟨g,1,none⟩=some b∧w.cell? ⟨g,2,none⟩=some d:=by
 obtain ⟨g,c,e,k⟩:=h.cells
 exact ⟨g,c,e,k 0 _ rfl,k 1 _ rfl,k 2 _ rfl⟩
theorem OIn.c5 {w wr w4 w5:World} {p q:Nat} {S:Nat→Prop} {t:Tr} {sl:Value} {ls:List ByteArray} {l:List Int} {kv:Value} {la1 ka1 la2:Option Addr} {lc2:Nat} {ka2:Option Addr} {kc2:Nat} {r:Int} {o:Option Nat}
  (hq:w.heap.size=q) (hpq:p<q) (ow:Ow wr 3 (q+1) kv (ivs l)) (gr:Gr w wr p) (ap:∀ g,kv.ownBlock=some g→(∀ x,la1=some x→x.block≠g)∧(∀ x,ka1=some x→x.block≠g))
  (g4:Gr wr w4 p) (c4:Cq w4 p (fun g=>S g∧g<q) t sl ls la2 lc2 ka2 kc2 o) (f3:Fr wr la1 la2) (f4:Fr wr ka1 ka2) (g5:(w4.alloc (.cells #[.int .i64 r] 3)).grownBy w5 kv.ownBlock) :
  Cq w5 p (fun g=>S g∧g<q) t sl ls la2 lc2 ka2 kc2 o∧Gr w w5 p∧∀ g,kv.ownBlock=some g→(∀ x,la2=some x→x.block≠g)∧(∀ x,ka2=some x→x.block≠g):=by
 have bA:Below w4.heap.size w4 (w4.alloc (.cells #[.int .i64 r] 3)):=(Below.refl _ _).alloc (Nat.le_refl _) _
 have hr:∀ g,kv.ownBlock=some g→q+1≤g∧g<wr.heap.size:=fun g e=>ow.lt g e
 have ne4:∀ g,kv.ownBlock=some g→(∀ x,la2=some x→x.block≠g)∧(∀ x,ka2=some x→x.block≠g):=fun g e=>by
  refine ⟨fun x h e2=>?_,fun x h e2=>?_⟩
  ·rcases f3 x h with ⟨y,hy,e3⟩ | e3
   ·exact (ap g e).1 y hy (e3.trans e2)
   ·have:=(hr g e).2;omega
  ·rcases f4 x h with ⟨y,hy,e3⟩ | e3
   ·exact (ap g e).2 y hy (e3.trans e2)
   ·have:=(hr g e).2;omega
 exact ⟨(c4.next bA).grown g5 fun g e=>⟨by have:=(hr g e).1;omega,(ne4 g e).1,(ne4 g e).2,fun s=>by have:=s.2;have:=(hr g e).1;omega⟩,((gr.trans g4).below bA).own g5 (fun i e=>by have:=(hr i e).1;omega),ne4⟩
theorem cr_nx {ks:List Tr} {be:List (ByteArray × Nat)} {loc:List ByteArray} {s:Bool} {nm:ByteArray} {ts:List Tr} {i:Nat} {k:Tr} (hk:ts[i]?=some k):chkL ks be loc s nm (decide (i=0)) (ts.drop i)=(if (chk ks be (if s && decide (0<i) then nm :: loc else loc) k).1=0 then .inr (chk ks be (if s && decide (0<i) then nm :: loc else loc) k).2 else match chkL ks be loc s nm false (ts.drop (i+1)) with | .inr f=>.inr f | .inl l=>.inl ((chk ks be (if s && decide (0<i) then nm :: loc else loc) k).1 :: l)):=by
 obtain ⟨hi,hk⟩:=List.getElem?_eq_some_iff.1 hk
 rw [List.drop_eq_getElem_cons hi,hk]
 have e:(s && !decide (i=0))=(s && decide (0<i)):=by
  congr 1
  by_cases c:i=0
  ·simp [c]
  ·simp [c];omega
 rw [chkL,e]
 cases chkL ks be loc s nm false (ts.drop (i+1)) <;> rfl
theorem OIn.on {w wr w4 w5:World} {p q:Nat} {S S2:Nat→Prop} {t:Tr} {sl:Value} {ls:List ByteArray} {la ka:Option Addr} {op nm:ByteArray} {kd:Nat} {n:Int} {pl:Nat} {ev:Value} {ts:List Tr} {i:Nat} {l:List Int} {kv kv':Value} {la1:Option Addr} {ka1 la2:Option Addr} {lc2:Nat} {ka2:Option Addr} {kc2:Nat} {r:Int}
  (hq:w.heap.size=q) (hpq:p<q) (hS2:∀ g,S2 g→g≠p) (nd:Nd wr (fun g=>S2 g∧g<q) ev ts) (bx:B6 wr q (.string op) (.string nm) (.int .i64 (kd:Nat)) (.int .i64 n) (.int .i64 (pl:Nat)) ev) (ow:Ow wr 3 (q+1) kv (ivs l)) (gr:Gr w wr p) (ln:l.length=i)
  (f1:Fr w la la1) (f2:Fr w ka ka1) (ap:∀ g,kv.ownBlock=some g→(∀ x,la1=some x→x.block≠g)∧(∀ x,ka1=some x→x.block≠g))
  (g4:Gr wr w4 p) (c4:Cq w4 p (fun g=>S g∧g<q) t sl ls la2 lc2 ka2 kc2 none) (f3:Fr wr la1 la2) (f4:Fr wr ka1 ka2)
  (ow5:Ow w5 3 (q+1) kv' (ivs l ++ [.int .i64 r])) (g5:(w4.alloc (.cells #[.int .i64 r] 3)).grownBy w5 kv.ownBlock) (ly:Lies (w4.alloc (.cells #[.int .i64 r] 3)) kv kv')
  (cr:chkL t.kids [] ls.reverse false nm true ts=(match chkL t.kids [] ls.reverse false nm (decide (i+1=0)) (ts.drop (i+1)) with | .inl l2=>.inl ((l ++ [r]) ++ l2) | .inr f=>.inr f)) :
  OIn w w5 p q S S2 t sl ls la ka op nm kd n pl ev ts (i+1) (l ++ [r]) kv':=by
 have bA:Below w4.heap.size w4 (w4.alloc (.cells #[.int .i64 r] 3)):=(Below.refl _ _).alloc (Nat.le_refl _) _
 have hw:=gr.size
 have hr:∀ g,kv.ownBlock=some g→q+1≤g∧g<wr.heap.size:=fun g e=>ow.lt g e
 obtain ⟨c5,gr5,ne4⟩:=OIn.c5 hq hpq ow gr ap g4 c4 f3 f4 g5
 have k5:∀ g,g<q+1→g≠p→w5.heap[g]?=wr.heap[g]?:=fun g hg hp=>by
  rw [g5.block g (by have:=bA.size;have:=g4.size;have:=bx.lt;omega) (fun e=>by have:=(hr g e.symm).1;omega),bA.block g (by have:=g4.size;have:=bx.lt;omega),g4.bl (by have:=bx.lt;omega) hp]
 refine ⟨⟨la2,lc2,ka2,kc2,c5,f1.trans f3 hw,f2.trans f4 hw,fun g e=>?_⟩,nd.keep (fun g s l=>⟨s,k5 g (by have:=s.2;omega) (hS2 g s.1)⟩),bx.keep (k5 q (by omega) (by omega)),?_,gr5,by rw [List.length_append,ln];rfl,cr⟩
 ·rcases ly with e2 | e2
  ·exact ne4 g (e2.symm.trans e)
  ·rw [e2] at e
   injection e with e
   subst e
   refine ⟨fun x h e3=>?_,fun x h e3=>?_⟩
   ·have:=(c4.nl x h).2;have:=bA.size;omega
   ·have:=(c4.nk x h).2;have:=bA.size;omega
 ·have e:ivs (l ++ [r])=ivs l ++ [.int .i64 r]:=by simp [ivs]
  rw [e]
  exact ow5
set_option maxRecDepth 100000 in
set_option maxHeartbeats 8000000 in
theorem of_two (p:Nat) (t:Tr) (sl:Value) (ls:List ByteArray) (hls:ls.length≤100) (op:ByteArray) (ho:op ∈ ops14) (zs:eqB op ⟨#[115,117,109]⟩=false) (z0:(op.toList==[115,117,109])=false) (z1:(op.toList==[108,105,116])=false) (z2:(op.toList==[110,97,109,101])=false) (z3:(op.toList==[97,116])=false) (z4:(op.toList==[108,101,110])=false) (z5:(op.toList==[105,102])=false) (nm:ByteArray) (kd:Nat) (n:Int) (pl:Nat) (ts:List Tr) (hl:ts.length=2) (hk:∀ (i:Nat) (k:Tr),ts[i]?=some k→OfC p t sl ls k):OfC p t sl ls (.nd op nm kd n pl ts):=by
 intro S S2 w la lc ka kc v hS hS2 h hd
 unfold OfP
 simp only [tr_op9,tr_name9,tr_kind9,tr_n9,tr_pl9,tr_kids9] at hd ⊢
 obtain ⟨sa,sc,rfl⟩:=hd.lenY
 have B1:=hid (show Below w.heap.size w (w.alloc (.cells #[.string op,.string nm,.int .i64 (kd:Nat),.int .i64 n,.int .i64 (pl:Nat),.slice sa ts.length sc] 29)) from (Below.refl _ _).alloc (Nat.le_refl _) _)
 have X1:=hid (B6.new w 29 (.string op) (.string nm) (.int .i64 (kd:Nat)) (.int .i64 n) (.int .i64 (pl:Nat)) (.slice sa ts.length sc))
 have PQ:=hid h.ck.pl
 have HS:=hid hS
 have HT:=hid hS2
 have HK:=hid hk
 have HL:=hid hl
 have LS:=hid hls
 obtain ⟨R,hR⟩:∃ R,chk t.kids [] ls.reverse (.nd op nm kd n pl ts)=R:=⟨_,rfl⟩
 have RH:=hid (show (match chkL t.kids [] ls.reverse false nm true ts with
  | .inr f=>((0:Int),f)
  | .inl l=>if nodeK t.kids [] ls.reverse op nm kd l=0 then (0,pl) else (nodeK t.kids [] ls.reverse op nm kd l,0))=R from by rw [← hR,chk,show eqB op ⟨#[115,117,109]⟩=false from zs];cases chkL t.kids [] ls.reverse false nm true ts <;> rfl)
 have KL9:(ts.length:Int)≤3:=by omega
 have I0:=hid (show OIn w (w.alloc (.cells #[.string op,.string nm,.int .i64 (kd:Nat),.int .i64 n,.int .i64 (pl:Nat),.slice sa ts.length sc] 29)) p w.heap.size S S2 t sl ls la ka op nm kd n pl (.slice sa ts.length sc) ts 0 [] (.slice none 0 0) from
  ⟨⟨la,lc,ka,kc,h.keep (S':=fun g=>S g∧g<w.heap.size) B1.out.size (B1.out.block _ h.ck.pl) (fun x e=>B1.out.block _ (h.nl x e).2) (fun x e=>B1.out.block _ (h.nk x e).2) (fun g s l=>⟨⟨s,l⟩,B1.out.block g l⟩),Fr.refl _ _,Fr.refl _ _,fun g e=>by cases e⟩,hd.keep (S':=fun g=>S2 g∧g<w.heap.size) (fun g s l=>⟨⟨s,l⟩,B1.out.block g l⟩),X1.out,Ow.nil _ _ _,(Gr.refl w p).below B1.out,rfl,by
   rw [List.drop_zero]
   show chkL t.kids [] ls.reverse false nm true ts=(match chkL t.kids [] ls.reverse false nm true ts with | .inl l2=>Sum.inl ([] ++ l2) | .inr f=>Sum.inr f)
   cases chkL t.kids [] ls.reverse false nm true ts <;> rfl⟩)
 rw [hR]
 clear h hd hS hS2 hk hR hls hl B1 X1
 go_enter Tryd.func30,Tryd.ntmps30
 go_upto_region 1 with fail
 generalize World.alloc w _=w1 at *
 have e0:=I0.out.bx.c0
 go_wp2_with fail
 clear e0
 go_loopg [6,5] (ts.length) (fun g iv kv wr=>∃ (i:Nat) (l:List Int),i≤ts.length∧g=ts.length - i∧iv=.int .i64 (i:Nat)∧Hid (OIn w wr p w.heap.size S S2 t sl ls la ka op nm kd n pl (.slice sa ts.length sc) ts i l kv))
 case atStart=>exact ⟨0,[],Nat.zero_le _,rfl,rfl,I0.out⟩
 case round =>
  obtain ⟨i,l,hi,rfl,rfl,II⟩:=hrel
  clear I0
  by_cases qi:i<ts.length
  ·have qi':(i:Int)<(ts.length:Int):=by omega
   obtain ⟨k,hk⟩:∃ k,ts[i]?=some k:=⟨_,List.getElem?_eq_getElem qi⟩
   obtain ⟨g,c,s3,ea,nc,nk⟩:=II.out.nd.atY i k hk
   obtain ⟨ka9,km9,kc9,rfl⟩:=nk.slice
   injection ea with ea _ ec
   subst ea ec
   obtain ⟨la1,lc1,ka1,kc1,c1,f1,f2,ap⟩:=II.out.cq
   have KC:=hid (HK.out i k hk _ _ wr la1 lc1 ka1 kc1 _ (fun g s=>HS.out g s.1) (fun g s=>HT.out g s.1) c1 nk)
   unfold OfP at KC
   have CR:=hid (cr_nx (ks:=t.kids) (be:=[]) (loc:=ls.reverse) (s:=false) (nm:=nm) hk)
   have EV:(if (false && decide (0<i))=true then nm :: ls.reverse else ls.reverse)=ls.reverse:=by simp
   rw [EV] at CR
   have SZ:=hid (show w.heap.size+1≤wr.heap.size from II.out.bx.lt)
   have LI:=hid (show l.length≤3 from by have:=II.out.ln;have:=HL.out;omega)
   have AP:=hid ap
   have F1:=hid f1
   have F2:=hid f2
   obtain ⟨n0,n1,n2,n3,n4,n5⟩:=nc
   have e5:=II.out.bx.c5
   clear nk hk c1 ap f1 f2 EV
   generalize chk t.kids [] ls.reverse k=kr at *
   by_cases qk:kr.1=0
   ·rw [show fO kr=some kr.2 from if_pos qk] at KC
    have FF:=hid (show (0,kr.2)=R from by rw [← RH.out,II.out.cr,CR.out,if_pos qk])
    have zk:(0:Int)≤(kr.2:Int):=by omega
    clear qk
    go_upto_region 8 with (first | (go_at_call 30;(with_reducible refine Calls.mono KC.out ?_);rintro e w4 ⟨rfl,h4,g4⟩;obtain ⟨la2,lc2,ka2,kc2,c4,f3,f4⟩:=h4;have C4:=hid c4;have F3:=hid f3;have F4:=hid f4;have G4:=hid g4;have OW:=hid ((II.out.ow.gr g4 (by have:=PQ.out;omega)).below ((Below.refl _ _).alloc (Nat.le_refl _) (.cells #[.int .i64 kr.1] 3)));have S4:=hid (show w.heap.size+1≤(w4.alloc (.cells #[.int .i64 kr.1] 3)).heap.size from by have:=SZ.out;have:=g4.size;simp;omega);clear c4 f3 f4 g4) | (at_builtin;refine wpList_append_sa 66 3 (.int .i64 0) 8 Tryd.underlying66 intInfo11 rfl (by decide) rfl (.tmp 26) (.tmp 34) rfl (w.heap.size+1) _ (ivs l) rfl OW.out (some ⟨w4.heap.size,0,none⟩) 1 1 [.int .i64 kr.1] rfl (sl_new w4 (.int .i64 kr.1) 3 rfl) (by have:=LI.out;rw [ivs_len];omega) S4.out ?_;intro v2 w5 o5 g5 ly;have O5:=hid o5;have G5:=hid g5;have L5:=hid ly;clear o5 g5 ly))
    clear n0 n1 n2 n3 n4 n5 e5
    obtain ⟨c5,gr5,_⟩:=OIn.c5 rfl PQ.out II.out.ow II.out.gr AP.out G4.out C4.out F3.out F4.out G5.out
    have C5:=hid c5
    have c8:w5.cell? ⟨p,8,none⟩=some (.int .i64 (kr.2:Nat)):=c5.ck.c8
    have GR:=hid gr5
    clear c5 gr5
    go_wp2_with fail
    go_returns
    exact ⟨by rw [← FF.out];rfl,by rw [← FF.out];exact ofE (C5.out.sub (fun g s _=>s.1)) (F1.out.trans F3.out II.out.gr.size) (F2.out.trans F4.out II.out.gr.size),GR.out⟩
   ·rw [show fO kr=none from if_neg qk] at KC
    have C2:=hid (show chkL t.kids [] ls.reverse false nm true ts=(match chkL t.kids [] ls.reverse false nm (decide (i+1=0)) (ts.drop (i+1)) with | .inl l2=>.inl ((l ++ [kr.1]) ++ l2) | .inr f=>.inr f) from by
     rw [II.out.cr,CR.out,if_neg qk]
     show _=(match chkL t.kids [] ls.reverse false nm false (ts.drop (i+1)) with | .inl l2=>Sum.inl ((l ++ [kr.1]) ++ l2) | .inr f=>Sum.inr f)
     cases chkL t.kids [] ls.reverse false nm false (ts.drop (i+1)) with
     | inl a=>simp
     | inr a=>rfl)
    clear qk
    go_upto_region 8 with (first | (go_at_call 30;(with_reducible refine Calls.mono KC.out ?_);rintro e w4 ⟨rfl,h4,g4⟩;obtain ⟨la2,lc2,ka2,kc2,c4,f3,f4⟩:=h4;have C4:=hid c4;have F3:=hid f3;have F4:=hid f4;have G4:=hid g4;have OW:=hid ((II.out.ow.gr g4 (by have:=PQ.out;omega)).below ((Below.refl _ _).alloc (Nat.le_refl _) (.cells #[.int .i64 kr.1] 3)));have S4:=hid (show w.heap.size+1≤(w4.alloc (.cells #[.int .i64 kr.1] 3)).heap.size from by have:=SZ.out;have:=g4.size;simp;omega);clear c4 f3 f4 g4) | (at_builtin;refine wpList_append_sa 66 3 (.int .i64 0) 8 Tryd.underlying66 intInfo11 rfl (by decide) rfl (.tmp 26) (.tmp 34) rfl (w.heap.size+1) _ (ivs l) rfl OW.out (some ⟨w4.heap.size,0,none⟩) 1 1 [.int .i64 kr.1] rfl (sl_new w4 (.int .i64 kr.1) 3 rfl) (by have:=LI.out;rw [ivs_len];omega) S4.out ?_;intro v2 w5 o5 g5 ly;have O5:=hid o5;have G5:=hid g5;have L5:=hid ly;clear o5 g5 ly))
    clear n0 n1 n2 n3 n4 n5 e5
    have NI:=hid (OIn.on rfl PQ.out HT.out II.out.nd II.out.bx II.out.ow II.out.gr II.out.ln F1.out F2.out AP.out G4.out C4.out F3.out F4.out O5.out G5.out L5.out C2.out)
    obtain ⟨c5,gr5,_⟩:=OIn.c5 rfl PQ.out II.out.ow II.out.gr AP.out G4.out C4.out F3.out F4.out G5.out
    have c8:w5.cell? ⟨p,8,none⟩=some (.int .i64 (-1)):=c5.ck.c8
    clear c5 gr5
    go_wp2_with fail
    go_roundg (ts.length - (i+1))
    case measure=>omega
    case rel=>exact ⟨i+1,l ++ [kr.1],by omega,rfl,by rw [Int.natCast_add];rfl,NI.out⟩
  ·have qi':¬ (i:Int)<(ts.length:Int):=by omega
   have CF:=hid (show chkL t.kids [] ls.reverse false nm true ts=.inl l from by rw [II.out.cr,List.drop_eq_nil_of_le (by omega),chkL];simp)
   have RF:=hid (show (if nodeK t.kids [] ls.reverse op nm kd l=0 then (0,pl) else (nodeK t.kids [] ls.reverse op nm kd l,0))=R from by rw [← RH.out,CF.out])
   have LE:l.length=2:=by have:=II.out.ln;have:=HL.out;omega
   obtain ⟨a,b,rfl⟩:∃ a b,l=[a,b]:=by match l,LE with | [a,b],_=>exact ⟨_,_,rfl⟩
   obtain ⟨r,rc,rfl,k0,k1⟩:=Ow.c2 (show Ow wr 3 (w.heap.size+1) _ [.int .i64 a,.int .i64 b] from II.out.ow)
   obtain ⟨la1,lc1,ka1,kc1,c1,f1,f2,ap⟩:=II.out.cq
   have BX:=hid II.out.bx
   have C1:=hid c1
   have F1:=hid f1
   have F2:=hid f2
   have G1:=hid II.out.gr
   clear c1 f1 f2 ap CF LE II
   obtain ⟨x0,x1,x2,x3,x4,x5,xz⟩:=BX.out
   have ND:nodeK t.kids [] ls.reverse op nm kd [a,b]=binK op a b:=by unfold nodeK;rw [zs];rfl
   rw [ND] at RF
   clear ND
   go_upto_region 44 with fail
   have RL:=hid (show r<wr.heap.size from World.block_lt_of_cell? _ _ k0)
   refine wp_region_held_drew (S:=fun W=>Below wr.heap.size wr W) (by kernel_rfl) (Below.refl _ _).drew (fun hHeld=>?_)
   refine take2 rfl (i:=0) (v:=.pointer (some ⟨w.heap.size,0,none⟩)) (d:=184) rfl rfl (by kernel_rfl) (by kernel_rfl) (by kernel_rfl) (fun _ _ _ h=>h) (Or.inl ⟨by rfl,?_⟩) hHeld ?_
   ·(intro W hW;(try dsimp only at hW);go_simp)
   try simp only [Act.put,List.setIfInBounds_toArray,List.set_cons_zero,List.set_cons_succ]
   refine take2 rfl (i:=1) (v:=.string op) (d:=185) rfl rfl (by kernel_rfl) (by kernel_rfl) (by kernel_rfl) (fun _ _ _ h=>h) (Or.inl ⟨by rfl,?_⟩) hHeld ?_
   ·(intro W hW;(try dsimp only at hW);have c1:=(BX.out.next hW).c0;go_simp)
   try simp only [Act.put,List.setIfInBounds_toArray,List.set_cons_zero,List.set_cons_succ]
   refine take2 rfl (i:=2) (v:=.slice (some ⟨r,0,none⟩) 2 rc) (d:=186) rfl rfl (by kernel_rfl) (by kernel_rfl) (by kernel_rfl) (fun _ _ _ h=>h) (Or.inl ⟨by rfl,?_⟩) hHeld ?_
   ·(intro W hW;(try dsimp only at hW);go_simp)
   try simp only [Act.put,List.setIfInBounds_toArray,List.set_cons_zero,List.set_cons_succ]
   refine take2 rfl (i:=3) (v:=.pointer (some ⟨r,0,none⟩)) (d:=187) rfl rfl (by kernel_rfl) (by kernel_rfl) (by kernel_rfl) (fun _ _ _ h=>h) (Or.inl ⟨by rfl,?_⟩) hHeld ?_
   ·(intro W hW;(try dsimp only at hW);go_simp)
   try simp only [Act.put,List.setIfInBounds_toArray,List.set_cons_zero,List.set_cons_succ]
   refine take2 rfl (i:=4) (v:=.int .i64 a) (d:=188) rfl rfl (by kernel_rfl) (by kernel_rfl) (by kernel_rfl) (fun _ _ _ h=>h) (Or.inl ⟨by rfl,?_⟩) hHeld ?_
   ·(intro W hW;(try dsimp only at hW);have c1:=(World.cell?_of_block (a:=⟨r,0,none⟩) (hW.block r RL.out)).trans k0;go_simp)
   try simp only [Act.put,List.setIfInBounds_toArray,List.set_cons_zero,List.set_cons_succ]
   refine take2 rfl (i:=5) (v:=.slice (some ⟨r,0,none⟩) 2 rc) (d:=189) rfl rfl (by kernel_rfl) (by kernel_rfl) (by kernel_rfl) (fun _ _ _ h=>h) (Or.inl ⟨by rfl,?_⟩) hHeld ?_
   ·(intro W hW;(try dsimp only at hW);go_simp)
   try simp only [Act.put,List.setIfInBounds_toArray,List.set_cons_zero,List.set_cons_succ]
   refine take2 rfl (i:=6) (v:=.pointer (some ⟨r,1,none⟩)) (d:=190) rfl rfl (by kernel_rfl) (by kernel_rfl) (by kernel_rfl) (fun _ _ _ h=>h) (Or.inl ⟨by rfl,?_⟩) hHeld ?_
   ·(intro W hW;(try dsimp only at hW);go_simp)
   try simp only [Act.put,List.setIfInBounds_toArray,List.set_cons_zero,List.set_cons_succ]
   refine take2 rfl (i:=7) (v:=.int .i64 b) (d:=191) rfl rfl (by kernel_rfl) (by kernel_rfl) (by kernel_rfl) (fun _ _ _ h=>h) (Or.inl ⟨by rfl,?_⟩) hHeld ?_
   ·(intro W hW;(try dsimp only at hW);have c1:=(World.cell?_of_block (a:=⟨r,1,none⟩) (hW.block r RL.out)).trans k1;go_simp)
   try simp only [Act.put,List.setIfInBounds_toArray,List.set_cons_zero,List.set_cons_succ]
   have BZ:=hid (show Below wr.heap.size wr wr.drew from (Below.refl _ _).drew)
   have K:=hid (binary_any op ho a b wr.drew)
   generalize binK op a b=D at *
   generalize wr.drew=wz at *
   refine wpAnyH_ready (rs:=[8]) (by kernel_rfl) (by simp) ?_
   refine cons2 rfl rfl (fun K9 hK=>?_)
   go_simp
   refine Calls.mono K.out ?_
   rintro e w2 ⟨rfl,rfl⟩
   go_wp2_with fail
   refine hK.out _ _ BZ.out (fun hX=>?_)
   clear hK K9 hHeld
   have hHeld:=hX
   clear hX
   try simp only [Act.put,List.setIfInBounds_toArray,List.set_cons_zero,List.set_cons_succ]
   refine take2 rfl (i:=9) (v:=.int .i64 D) (d:=12) rfl rfl (by kernel_rfl) (by kernel_rfl) (by kernel_rfl) (fun _ _ _ h=>h) (Or.inl ⟨by rfl,?_⟩) hHeld ?_
   ·(intro W hW;(try dsimp only at hW);go_simp)
   try simp only [Act.put,List.setIfInBounds_toArray,List.set_cons_zero,List.set_cons_succ]
   refine wpAnyH_done (by kernel_rfl) ?_ _
   have C3:=hid (C1.out.next BZ.out)
   have G3:=hid (G1.out.below BZ.out)
   have BX3:=hid (BX.out.next BZ.out)
   clear x0 x1 x2 x3 x4 x5 xz k0 k1 K
   obtain ⟨x0,x1,x2,x3,x4,x5,xz⟩:=BX3.out
   by_cases qD:D=0
   ·have zD:(D==0)=true:=by simpa using qD
    have FF:=hid (show (0,pl)=R from by rw [← RF.out,if_pos qD])
    have FC:=hid (fail11_any C3.out.ck (.nd op nm kd n pl ts) (.slice sa ts.length sc) rfl)
    simp only [tr_op9,tr_name9,tr_kind9,tr_n9,tr_pl9,Option.getD_none] at FC
    clear qD
    go_wp2_with (go_at_call 48;(with_reducible refine Calls.mono FC.out ?_);rintro e w9 ⟨rfl,c9,g9⟩;have C9:=hid c9;have G9:=hid g9;clear c9 g9)
    go_returns
    exact ⟨by rw [← FF.out];rfl,by rw [← FF.out];exact ofE ((C3.out.bad (fun g s=>HS.out g s.1) C9.out G9.out).sub (fun g s _=>s.1)) F1.out F2.out,G3.out.trans G9.out⟩
   ·have zD:(D==0)=false:=beqI _ _ qD
    have FF:=hid (show (D,0)=R from by rw [← RF.out,if_neg qD])
    have FN:=hid (show fO (D,0)=none from if_neg qD)
    clear qD
    go_wp2_with fail
    go_returns
    exact ⟨by rw [← FF.out];rfl,by rw [← FF.out,FN.out];exact ofE (C3.out.sub (fun g s _=>s.1)) F1.out F2.out,G3.out⟩
end Go.Proofs.YtonmdlhlkacppaaDoor
