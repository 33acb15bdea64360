/- Parts of the proof. -/
import Derived.Test.YteknljnjcoehoaaGreatDoorKU
import Derived.Maps.AppendAt
import Derived.Laws.AppendOwnNone
import Derived.Laws.OwnMore
import Derived.Deep.RegionLaw
import Derived.Deep.OwnRows
import Derived.Deep.WholeRow
namespace Go.Proofs.YteknljnjcoehoaaGreatDoor
open Go.RowKit
set_option linter.unusedVariables false
set_option linter.unusedSimpArgs false
structure Sl (w:World) (a:Option Addr) (n cap:Nat) (vs:List Value):Prop where
 len:vs.length=n
 fits:n≤cap
 max:cap≤maxLen
 nil:a=none→cap=0
 cell:∃ b o:Nat,(0<n→a=some ⟨b,o,none⟩)∧∀ i u,vs[i]?=some u→w.cell? ⟨b,o+i,none⟩=some u
 one:∀ u ∈ vs,u.oneCell'=true
theorem lt_of_some {α:Type} {l:List α} {i:Nat} {u:α} (h:l[i]?=some u):i<l.length:=by
 rcases Nat.lt_or_ge i l.length with q | q
 ·exact q
 ·rw [List.getElem?_eq_none q] at h;cases h
theorem Sl.old {w:World} {a:Option Addr} {n cap:Nat} {vs:List Value} (h:Sl w a n cap vs):0<n→∀ x,a=some x→x.block<w.heap.size:=by
 intro p x hx
 obtain ⟨b,o,h1,h2⟩:=h.cell
 have hl:=h.len
 have:=World.block_lt_of_cell? _ _ (h2 0 _ (List.getElem?_eq_getElem (show 0<vs.length by omega)))
 rw [h1 p] at hx
 simp at hx
 subst hx
 exact this
theorem Sl.kept {w w':World} {a:Option Addr} {n cap:Nat} {vs:List Value} (h:Sl w a n cap vs) (hk:0<n→∀ x,a=some x→w'.heap[x.block]?=w.heap[x.block]?):Sl w' a n cap vs:=by
 obtain ⟨b,o,h1,h2⟩:=h.cell
 refine ⟨h.len,h.fits,h.max,h.nil,⟨b,o,h1,fun i u hi=>?_⟩,h.one⟩
 have hl:=h.len
 have:=lt_of_some hi
 have:=hk (by omega) _ (h1 (by omega))
 rw [World.cell?_of_block (w:=w) (a:=⟨b,o+i,none⟩) this]
 exact h2 i u hi
theorem Sl.below {w w':World} {a:Option Addr} {n cap:Nat} {vs:List Value} (h:Sl w a n cap vs) (hb:Below w.heap.size w w'):Sl w' a n cap vs :=
 h.kept fun p x hx=>hb.block x.block (h.old p x hx)
theorem Sl.grown {w w':World} {a:Option Addr} {n cap:Nat} {vs:List Value} {row:Option Nat} (h:Sl w a n cap vs) (hg:w.grownBy w' row) (hne:0<n→∀ x,a=some x→some x.block≠row):Sl w' a n cap vs :=
 h.kept fun p x hx=>hg.block x.block (h.old p x hx) (hne p x hx)
theorem Sl.none_nil {w:World} {n cap:Nat} {vs:List Value} (h:Sl w none n cap vs):n=0∧cap=0∧vs=[]:=by
 have c:=h.nil rfl
 have f:=h.fits
 exact ⟨by omega,c,List.length_eq_zero_iff.1 (by rw [h.len];omega)⟩
theorem Sl.empty (w:World):Sl w none 0 0 []:=⟨rfl,Nat.le_refl _,Nat.zero_le _,fun _=>rfl,⟨0,0,fun p=>absurd p (Nat.lt_irrefl 0),fun i u hi=>by simp at hi⟩,fun u hu=>by simp at hu⟩
theorem Sl.at {w:World} {a:Option Addr} {n cap:Nat} {vs:List Value} (h:Sl w a n cap vs) (p:0<n):∃ b o:Nat,a=some ⟨b,o,none⟩∧∀ i u,vs[i]?=some u→w.cell? ⟨b,o+i,none⟩=some u:=by
 obtain ⟨b,o,h1,h2⟩:=h.cell
 exact ⟨b,o,h1 p,h2⟩
theorem Sl.cells {w:World} {b o n cap:Nat} {vs:List Value} (h:Sl w (some ⟨b,o,none⟩) n cap vs):∀ i u,vs[i]?=some u→w.cell? ⟨b,o+i,none⟩=some u:=by
 intro i u hi
 have hl:=h.len
 have:=lt_of_some hi
 obtain ⟨b',o',h1,h2⟩:=h.cell
 have e:=h1 (by omega)
 simp at e
 obtain ⟨rfl,rfl⟩:=e
 exact h2 i u hi
theorem Sl.take {w:World} {b o n cap:Nat} {vs:List Value} (h:Sl w (some ⟨b,o,none⟩) n cap vs) {k:Nat} (hk:k≤n):Sl w (some ⟨b,o,none⟩) k cap (vs.take k):=by
 have hl:=h.len
 have hf:=h.fits
 have hc:=h.cells
 refine ⟨by simp;omega,by omega,h.max,fun e=>by simp at e,⟨b,o,fun _=>rfl,fun i u hi=>?_⟩,fun u hu=>h.one u (List.mem_of_mem_take hu)⟩
 have hik:i<k:=by have:=lt_of_some hi;simp at this;omega
 rw [List.getElem?_take_of_lt hik] at hi
 exact hc i u hi
theorem Sl.drop {w:World} {b o n cap:Nat} {vs:List Value} (h:Sl w (some ⟨b,o,none⟩) n cap vs) {k:Nat} (hk:k≤n) {o':Nat} (ho:k<n→o'=o+k):Sl w (some ⟨b,o',none⟩) (n - k) (cap - k) (vs.drop k):=by
 have hl:=h.len
 have hf:=h.fits
 have hm:=h.max
 have hc:=h.cells
 refine ⟨by simp;omega,by omega,by omega,fun e=>by simp at e,⟨b,o',fun _=>rfl,fun i u hi=>?_⟩,fun u hu=>h.one u (List.mem_of_mem_drop hu)⟩
 have hik:i<n - k:=by have:=lt_of_some hi;simp at this;omega
 rw [List.getElem?_drop] at hi
 rw [ho (by omega),Nat.add_assoc]
 exact hc (k+i) u hi
theorem Sl.news {w:World} {x:Addr} {n cap:Nat} {vs:List Value} (h:Sl w (some x) n cap vs):∀ j u,vs[j]?=some u→w.cell? (x.add j)=some u:=by
 intro j u hj
 have hl:=h.len
 have:=lt_of_some hj
 obtain ⟨b,o,h1,h2⟩:=h.cell
 have e:=h1 (by omega)
 simp at e
 subst e
 have hplain:(⟨b,o,none⟩:Addr).add j=⟨b,o+j,none⟩:=by unfold Addr.add;split <;> simp_all
 rw [hplain]
 exact h2 j u hj
structure Ow (w:World) (T:TypeId) (base:Nat) (v:Value) (vs:List Value):Prop where
 row:w.ownsRow base T 1 v vs.length vs
 one:∀ u ∈ vs,u.oneCell'=true
theorem Ow.sl {w:World} {T:TypeId} {base:Nat} {v:Value} {vs:List Value} (h:Ow w T base v vs):∃ a cap,v=.slice a vs.length cap∧Sl w a vs.length cap vs∧(∀ x,a=some x→base≤x.block∧x.block<w.heap.size)∧(a=none∨∃ g,a=some ⟨g,0,none⟩):=by
 rcases h.row.2 with ⟨hv,h0⟩ | ⟨g,cap,cur,hv,hb,hg,hn,hm,hs,ht⟩
 ·have:vs=[]:=List.length_eq_zero_iff.1 h0
  subst this
  exact ⟨none,0,hv,Sl.empty w,fun x hx=>by simp at hx,Or.inl rfl⟩
 ·have gl:=(Array.getElem?_eq_some_iff.1 hg).1
  refine ⟨_,cap,hv,⟨rfl,hn,hm,fun e=>by simp at e,⟨g,0,fun _=>rfl,fun i u hi=>?_⟩,h.one⟩,fun x hx=>by simp at hx;subst hx;exact ⟨hb,gl⟩,Or.inr ⟨g,rfl⟩⟩
  have hil:=lt_of_some hi
  rw [Nat.mul_one] at ht hs
  have e:cur[i]?=some u:=by
   rw [← ht,List.getElem?_take_of_lt hil,Array.getElem?_toList] at hi
   exact hi
  rw [Nat.zero_add]
  simp [World.cell?,hg,e]
theorem Ow.below {w w':World} {T:TypeId} {base:Nat} {v:Value} {vs:List Value} (h:Ow w T base v vs) (hb:Below w.heap.size w w'):Ow w' T base v vs:=by
 refine ⟨⟨h.row.1,?_⟩,h.one⟩
 rcases h.row.2 with hn | ⟨g,cap,cur,rfl,hbb,hgg,rest⟩
 ·exact .inl hn
 ·exact .inr ⟨g,cap,cur,rfl,hbb,by rw [hb.block g (Array.getElem?_eq_some_iff.1 hgg).1];exact hgg,rest⟩
theorem Ow.grown {w w':World} {T:TypeId} {base:Nat} {v:Value} {vs:List Value} {row:Option Nat} (h:Ow w T base v vs) (hg:w.grownBy w' row) (hne:∀ g,v.ownBlock=some g→some g≠row):Ow w' T base v vs:=by
 refine ⟨⟨h.row.1,?_⟩,h.one⟩
 rcases h.row.2 with hn | ⟨g,cap,cur,rfl,hbb,hgg,rest⟩
 ·exact .inl hn
 ·exact .inr ⟨g,cap,cur,rfl,hbb,by rw [hg.block g (Array.getElem?_eq_some_iff.1 hgg).1 (hne g rfl)];exact hgg,rest⟩
theorem Ow.mono {w:World} {T:TypeId} {base b':Nat} {v:Value} {vs:List Value} (h:Ow w T base v vs) (hb:b'≤base):Ow w T b' v vs:=by
 refine ⟨⟨h.row.1,?_⟩,h.one⟩
 rcases h.row.2 with hn | ⟨g,cap,cur,rfl,hbb,rest⟩
 ·exact .inl hn
 ·exact .inr ⟨g,cap,cur,rfl,by omega,rest⟩
theorem Ow.nil (w:World) (T:TypeId) (base:Nat):Ow w T base (.slice none 0 0) []:=⟨World.ownsRow_nil w base T 1,fun u hu=>by simp at hu⟩
theorem sl_new (w:World) (u:Value) (T:TypeId) (h:u.oneCell'=true):Sl (w.alloc (.cells #[u] T)) (some ⟨w.heap.size,0,none⟩) 1 1 [u] :=
 ⟨rfl,Nat.le_refl _,by decide,fun e=>by simp at e,⟨w.heap.size,0,fun _=>rfl,fun i x hi=>by
  have:=lt_of_some hi
  obtain rfl:i=0:=by simp at this;omega
  simp at hi
  subst hi
  simp⟩,fun x hx=>by simp at hx;subst hx;exact h⟩
def sv (ss:List ByteArray):List Value:=ss.map Value.string
theorem sv_len (ss:List ByteArray):(sv ss).length=ss.length:=by simp [sv]
theorem sv_app (a b:List ByteArray):sv (a ++ b)=sv a ++ sv b:=by simp [sv]
theorem sv_one (ss:List ByteArray):∀ u ∈ sv ss,u.oneCell'=true:=by
 intro u hu
 obtain ⟨_,_,rfl⟩:=List.mem_map.1 hu
 rfl
theorem sv_get {ss:List ByteArray} {i:Nat} (h:i<ss.length):(sv ss)[i]?=some (.string (ss.getD i ByteArray.empty)):=by
 simp [sv,List.getD,h]
theorem Sl.str {w:World} {b o n cap:Nat} {ss:List ByteArray} (h:Sl w (some ⟨b,o,none⟩) n cap (sv ss)) {i:Nat} (hi:i<n):w.cell? ⟨b,o+i,none⟩=some (.string (ss.getD i ByteArray.empty)):=by
 have:=h.len
 rw [sv_len] at this
 exact h.cells i _ (sv_get (by omega))
theorem Sl.slen {w:World} {a:Option Addr} {n cap:Nat} {ss:List ByteArray} (h:Sl w a n cap (sv ss)):ss.length=n:=by rw [← sv_len];exact h.len
theorem strInfo:(Tryz.prog.info? 9).map (fun i=>(i.zero,i.size,i.bytes))=some (some (.string ByteArray.empty),1,16):=by kernel_rfl
def Lies (w:World) (v v':Value):Prop:=v'.ownBlock=v.ownBlock∨v'.ownBlock=some w.heap.size
theorem run_append_sl {w:World} (S T:TypeId) (z:Value) (by0:Nat) (hu:Tryz.prog.underlying S=some (.slice T)) (hinf:(Tryz.prog.info? T).map (fun i=>(i.zero,i.size,i.bytes))=some (some z,1,by0)) (hz:z.cells.size=1) (hby:by0≤16) (ty:TypeId)
  (base:Nat) (v:Value) (xs:List Value) (hown:Ow w T base v xs) (ad:Option Addr) (m c:Nat) (vs:List Value) (hb:Sl w ad m c vs) (hbytes:xs.length+m≤1000000) (hbase:base≤w.heap.size) :
  ∃ v' w',(Builtin.append_ #[S,S] ty #[v,.slice ad m c]).run Tryz.prog w=.ok v' w'∧Ow w' T base v' (xs ++ vs)∧w.grownBy w' v.ownBlock∧Lies w v v':=by
 obtain ⟨i0,hi,hz0,hz1,hz2⟩:=info_parts hinf
 cases ad with
 | none =>
  obtain ⟨rfl,rfl,rfl⟩:=hb.none_nil
  exact ⟨v,w,run_append_owned_none w base S ty T i0 1 hu hi v _ _ hown.row,by simpa using hown,World.grownBy.refl w _,Or.inl rfl⟩
 | some ad =>
  obtain ⟨v',w',hr,h2,h3,h4,h5⟩:=run_append_own_at (P:=Tryz.prog) w base S ty T i0 z 1 by0 hu hi hz0 hz1 hz2 hz (by decide) v _ _ hown.row ad m c vs (by simp [hb.len]) hb.news hb.one (by unfold maxLen;omega) (by
   have:(xs.length+m)*by0≤1000000*16:=Nat.mul_le_mul hbytes hby
   omega) hbase
  refine ⟨v',w',hr,⟨?_,fun u hu=>?_⟩,h3,h5⟩
  ·have e:(xs ++ vs).length=xs.length+m:=by simp [hb.len]
   rw [e]
   exact h2
  ·rcases List.mem_append.1 hu with q | q
   ·exact hown.one u q
   ·exact hb.one u q
section
variable {w:World} {ops:Array Oper} {rest:List Oper} {o:Oper} {a:Act} {K:Act→World→Prop} {Q:Exit→Act→World→Prop} {E:Prop}
theorem wpList_append_sa (S T:TypeId) (z:Value) (by0:Nat) (hu:Tryz.prog.underlying S=some (.slice T)) (hinf:(Tryz.prog.info? T).map (fun i=>(i.zero,i.size,i.bytes))=some (some z,1,by0)) (hz:z.cells.size=1) (hby:by0≤16)
  (hgd:o.guard=none) (s x:Operand) (ho:o.op=.call { callee:=.builtin .append,args:=#[s,x],argTypes:=#[S,S] })
  (base:Nat) (v:Value) (xs:List Value) (hs:a.eval s=v) (hown:Ow w T base v xs) (ad:Option Addr) (m c:Nat) (vs:List Value) (hx:a.eval x=.slice ad m c) (hb:Sl w ad m c vs)
  (hbytes:xs.length+m≤1000000) (hbase:base≤w.heap.size)
  (h:∀ v' w',Ow w' T base v' (xs ++ vs)→w.grownBy w' v.ownBlock→Lies w v v'→wpList Tryz.prog ops Q rest (a.put o.dst v') w'):wpList Tryz.prog ops Q (o :: rest) a w:=by
 refine wpList_plain hgd fun K hK=>?_
 obtain ⟨v',w',hr,h2,h3,h4⟩:=run_append_sl S T z by0 hu hinf hz hby o.type base v xs hown ad m c vs hb hbytes hbase
 unfold Oper.wp execOp
 simp only [ho,resolve,invoke,builtin,Sem.run_bind,Sem.run_pure,Result.andThen_ok,List.map_toArray,List.map_cons,List.map_nil,hs,hx,hr]
 exact hK _ _ (h v' w' h2 h3 h4)
theorem step_append_sa (S T:TypeId) (z:Value) (by0:Nat) (hu:Tryz.prog.underlying S=some (.slice T)) (hinf:(Tryz.prog.info? T).map (fun i=>(i.zero,i.size,i.bytes))=some (some z,1,by0)) (hz:z.cells.size=1) (hby:by0≤16)
  (hgd:o.guard=none) (s x:Operand) (ho:o.op=.call { callee:=.builtin .append,args:=#[s,x],argTypes:=#[S,S] })
  (base:Nat) (v:Value) (xs:List Value) (hs:a.eval s=v) (hown:Ow w T base v xs) (ad:Option Addr) (m c:Nat) (vs:List Value) (hx:a.eval x=.slice ad m c) (hb:Sl w ad m c vs)
  (hbytes:xs.length+m≤1000000) (hbase:base≤w.heap.size)
  (h:∀ v' w',Ow w' T base v' (xs ++ vs)→w.grownBy w' v.ownBlock→Lies w v v'→K (a.put o.dst v') w'):if Region.wanted o (yielded ops a.tmps)=true then Oper.wp Tryz.prog o a w K Q else E:=by
 have hw:Region.wanted o (yielded ops a.tmps)=true:=by simp [Region.wanted,hgd]
 rw [if_pos hw]
 obtain ⟨v',w',hr,h2,h3,h4⟩:=run_append_sl S T z by0 hu hinf hz hby o.type base v xs hown ad m c vs hb hbytes hbase
 unfold Oper.wp execOp
 simp only [ho,resolve,invoke,builtin,Sem.run_bind,Sem.run_pure,Result.andThen_ok,List.map_toArray,List.map_cons,List.map_nil,hs,hx,hr]
 exact h v' w' h2 h3 h4
end
theorem Ow.lt {w:World} {T:TypeId} {base:Nat} {v:Value} {vs:List Value} (h:Ow w T base v vs):∀ g,v.ownBlock=some g→base≤g∧g<w.heap.size:=fun g hg=>h.row.lt g hg
theorem Lies.ne {w:World} {v v':Value} (h:Lies w v v') {g:Nat} (hlt:g<w.heap.size) (hne:v.ownBlock≠some g):v'.ownBlock≠some g:=by
 rcases h with h | h
 ·rw [h];exact hne
 ·rw [h];intro e;injection e with e;omega
theorem ow_new (w:World) (T:TypeId) (vs:List Value) (h1:∀ u ∈ vs,u.oneCell'=true) (hm:vs.length≤100000):Ow (w.alloc (.cells vs.toArray T)) T w.heap.size (.slice (some ⟨w.heap.size,0,none⟩) vs.length vs.length) vs :=
 ⟨⟨by simp,.inr ⟨w.heap.size,vs.length,vs.toArray,rfl,Nat.le_refl _,heap_alloc_new w _,Nat.le_refl _,by unfold maxLen;omega,by simp,by simp⟩⟩,h1⟩
end Go.Proofs.YteknljnjcoehoaaGreatDoor
