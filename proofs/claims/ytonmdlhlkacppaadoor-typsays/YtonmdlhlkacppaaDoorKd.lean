/- Parts of the proof. -/
import Derived.Test.YtonmdlhlkacppaaDoorKc
import Derived.Laws.Slices
namespace Go.Proofs.YtonmdlhlkacppaaDoor
open Go.RowKit
set_option linter.unusedVariables false
set_option linter.unusedSimpArgs false
theorem size_one11 {T:TypeId} {z:Value} {by0:Nat} (hinf:(Tryd.prog.info? T).map (fun i=>(i.zero,i.size,i.bytes))=some (some z,1,by0)) (w:World):(sizeOf T).run Tryd.prog w=.ok 1 w:=by
 obtain ⟨i0,hi,hz0,hz1,hz2⟩:=info_parts hinf
 simp [sizeOf,typeInfo,hi,hz1]
theorem elem_is11 {S T:TypeId} (hu:Tryd.prog.underlying S=some (.slice T)):Tryd.prog.elem S=T:=by
 simp [Program.elem,hu]
theorem cut_upto11 {S T:TypeId} {z:Value} {by0:Nat} (hu:Tryd.prog.underlying S=some (.slice T)) (hinf:(Tryd.prog.info? T).map (fun i=>(i.zero,i.size,i.bytes))=some (some z,1,by0)) (b o n cap k:Nat) (i:Int) (hi:i=(k:Nat)) (hk:k≤cap) :
  ∀ w,(Instr.slice S (.slice (some ⟨b,o,none⟩) n cap) none (some (.int .i64 i)) none).run Tryd.prog w=.ok (.slice (some ⟨b,o,none⟩) k cap) w:=by
 subst hi
 have he:=elem_is11 hu
 have hu':Tryd.prog.underlying S=some (.slice (Tryd.prog.elem S)):=by rw [he];exact hu
 intro w
 rw [run_slice_h w S _ n cap hu' .i64 (k:Nat) (by omega) (by omega),he,size_one11 hinf w]
 have hp:(⟨b,o,none⟩:Addr).add 0=⟨b,o+0,none⟩:=Addr.add_mid b o 0
 by_cases c:cap=0
 ·simp [Result.andThen,sliced,c]
 ·simp [Result.andThen,sliced,c,hp]
theorem cons222 {P:Program} {md:Region.Mode} {ops:Array Oper} {Q:Exit→Act→World→Prop} {S:World→Prop} {l:List Oper} (hl:ops=l.toArray) {fuel:Nat} {listed:Array Bool} {a:Act} {w:World} {i j m:Nat} {o p r:Oper} (ho:l[i]?=some o) (hp:l[j]?=some p) (hr:l[m]?=some r)
  (h:∀ K':Act→World→Prop,Shut (∀ a w,S w→(S w→wpAnyH P md ops Q S fuel (listed.setIfInBounds i true) a w)→K' a w)→if Region.wanted o (yielded ops a.tmps)=true then Oper.wp P o a w K' Q else K' (a.put o.dst undef) w)
  (k:∀ K':Act→World→Prop,Shut (∀ a w,S w→(S w→wpAnyH P md ops Q S fuel (listed.setIfInBounds j true) a w)→K' a w)→if Region.wanted p (yielded ops a.tmps)=true then Oper.wp P p a w K' Q else K' (a.put p.dst undef) w)
  (n:∀ K':Act→World→Prop,Shut (∀ a w,S w→(S w→wpAnyH P md ops Q S fuel (listed.setIfInBounds m true) a w)→K' a w)→if Region.wanted r (yielded ops a.tmps)=true then Oper.wp P r a w K' Q else K' (a.put r.dst undef) w) :
  AllReadyH P md ops Q S fuel listed a w [i,j,m]:=AllReadyH.cons (by rw [hl];simpa using ho) h (AllReadyH.cons (by rw [hl];simpa using hp) k (AllReadyH.cons (by rw [hl];simpa using hr) n AllReadyH.nil))
structure Cr (w:World) (p:Nat) (S:Nat→Prop) (t:Tr) (sl:Value) (ls:List ByteArray) (m:Nat) (la:Option Addr) (lc:Nat) (ka:Option Addr) (kc:Nat) (o:Option Nat):Prop where
 ck:Ck w p t sl (.slice la ls.length lc) (.slice ka m kc) o
 rl:Sl w la ls.length lc (sv ls)
 rk:Sl w ka m kc (thr m)
 nl:∀ x,la=some x→x.block≠p∧x.block<w.heap.size
 nk:∀ x,ka=some x→x.block≠p∧x.block<w.heap.size
 nd:Nd w S sl t.kids
theorem Cq.cr {w:World} {p:Nat} {S:Nat→Prop} {t:Tr} {sl:Value} {ls:List ByteArray} {la:Option Addr} {lc:Nat} {ka:Option Addr} {kc:Nat} {o:Option Nat} (h:Cq w p S t sl ls la lc ka kc o):Cr w p S t sl ls ls.length la lc ka kc o:=⟨h.ck,h.rl,h.rk,h.nl,h.nk,h.nd⟩
theorem Cr.cq {w:World} {p:Nat} {S:Nat→Prop} {t:Tr} {sl:Value} {ls:List ByteArray} {m:Nat} {la:Option Addr} {lc:Nat} {ka:Option Addr} {kc:Nat} {o:Option Nat} (h:Cr w p S t sl ls m la lc ka kc o) (e:m=ls.length):Cq w p S t sl ls la lc ka kc o:=by
 subst e
 exact ⟨h.ck,h.rl,h.rk,h.nl,h.nk,h.nd⟩
theorem Cr.next {w w':World} {p:Nat} {S:Nat→Prop} {t:Tr} {sl:Value} {ls:List ByteArray} {m:Nat} {la:Option Addr} {lc:Nat} {ka:Option Addr} {kc:Nat} {o:Option Nat} (h:Cr w p S t sl ls m la lc ka kc o) (q:Below w.heap.size w w'):Cr w' p S t sl ls m la lc ka kc o :=
 ⟨h.ck.next q,h.rl.below q,h.rk.below q,fun x e=>⟨(h.nl x e).1,by have:=(h.nl x e).2;have:=q.size;omega⟩,fun x e=>⟨(h.nk x e).1,by have:=(h.nk x e).2;have:=q.size;omega⟩,h.nd.gwY q⟩
theorem Cr.setl {w:World} {p:Nat} {S:Nat→Prop} {t:Tr} {sl:Value} {ls ls':List ByteArray} {m:Nat} {la la':Option Addr} {lc lc':Nat} {ka:Option Addr} {kc:Nat} {o:Option Nat} (h:Cr w p S t sl ls m la lc ka kc o) (hS:∀ g,S g→g≠p) (rl:Sl w la' ls'.length lc' (sv ls')) (nl:∀ x,la'=some x→x.block≠p∧x.block<w.heap.size):Cr (w.setCell ⟨p,6,none⟩ (.slice la' ls'.length lc')) p S t sl ls' m la' lc' ka kc o:=by
 have b:∀ x,x≠p→(w.setCell ⟨p,6,none⟩ (.slice la' ls'.length lc')).heap[x]?=w.heap[x]?:=fun x n=>Below.heap_setCell w ⟨p,6,none⟩ _ x n
 exact ⟨h.ck.loc _,rl.kept (fun _ x e=>b _ (nl x e).1),h.rk.kept (fun _ x e=>b _ (h.nk x e).1),fun x e=>⟨(nl x e).1,by have:=(nl x e).2;simpa using this⟩,fun x e=>⟨(h.nk x e).1,by have:=(h.nk x e).2;simpa using this⟩,h.nd.keep fun g s l=>⟨s,b g (hS g s)⟩⟩
theorem Cr.setk {w:World} {p:Nat} {S:Nat→Prop} {t:Tr} {sl:Value} {ls:List ByteArray} {m m':Nat} {la:Option Addr} {lc:Nat} {ka ka':Option Addr} {kc kc':Nat} {o:Option Nat} (h:Cr w p S t sl ls m la lc ka kc o) (hS:∀ g,S g→g≠p) (rk:Sl w ka' m' kc' (thr m')) (nk:∀ x,ka'=some x→x.block≠p∧x.block<w.heap.size):Cr (w.setCell ⟨p,7,none⟩ (.slice ka' m' kc')) p S t sl ls m' la lc ka' kc' o:=by
 have b:∀ x,x≠p→(w.setCell ⟨p,7,none⟩ (.slice ka' m' kc')).heap[x]?=w.heap[x]?:=fun x n=>Below.heap_setCell w ⟨p,7,none⟩ _ x n
 exact ⟨h.ck.kin _,h.rl.kept (fun _ x e=>b _ (h.nl x e).1),rk.kept (fun _ x e=>b _ (nk x e).1),fun x e=>⟨(h.nl x e).1,by have:=(h.nl x e).2;simpa using this⟩,fun x e=>⟨(nk x e).1,by have:=(nk x e).2;simpa using this⟩,h.nd.keep fun g s l=>⟨s,b g (hS g s)⟩⟩
theorem row_of {W:World} {T:TypeId} {base:Nat} {v:Value} {vs:List Value} {n:Nat} (h:Ow W T base v vs) (hn:vs.length=n):∃ la lc,v=.slice la n lc∧Sl W la n lc vs∧∀ x,la=some x→base≤x.block∧x.block<W.heap.size:=by
 subst hn
 obtain ⟨la,lc,e,s,b,_⟩:=h.sl
 exact ⟨la,lc,e,s,b⟩
theorem thr_succ (n:Nat):thr n ++ [.int .i64 3]=thr (n+1):=by
 unfold thr
 rw [List.replicate_succ']
theorem thr_take (n:Nat):(thr (n+1)).take n=thr n:=by
 unfold thr
 rw [List.take_replicate]
 congr 1
 omega
theorem chk_sum (ks:List Tr) (loc:List ByteArray) (nm:ByteArray) (kd:Nat) (n:Int) (pl:Nat) (x y:Tr):chk ks [] loc (.nd ⟨#[115,117,109]⟩ nm kd n pl [x,y])=(if (chk ks [] loc x).1=0 then (0,(chk ks [] loc x).2) else if (chk ks [] (nm :: loc) y).1=0 then (0,(chk ks [] (nm :: loc) y).2) else if sumK ks [] loc nm (chk ks [] loc x).1 (chk ks [] (nm :: loc) y).1=0 then (0,pl) else (sumK ks [] loc nm (chk ks [] loc x).1 (chk ks [] (nm :: loc) y).1,0)):=by
 rw [chk,show eqB (⟨#[115,117,109]⟩:ByteArray) ⟨#[115,117,109]⟩=true from rfl,chkL]
 simp only [Bool.not_true,Bool.and_false,Bool.false_eq_true,if_false]
 by_cases qx:(chk ks [] loc x).1=0
 ·rw [if_pos qx,if_pos qx]
 ·rw [if_neg qx,if_neg qx,chkL]
  simp only [Bool.not_false,Bool.and_self,if_true]
  by_cases qy:(chk ks [] (nm :: loc) y).1=0
  ·rw [if_pos qy,if_pos qy]
  ·rw [if_neg qy,if_neg qy,chkL]
   rfl
theorem Nd.two2 {w:World} {S:Nat→Prop} {v:Value} {x y:Tr} (h:Nd w S v [x,y]):∃ (g c:Nat) (sx sy:Value),v=.slice (some ⟨g,0,none⟩) 2 c∧S g∧NC w g 0 x sx∧NC w g 6 y sy∧Nd w S sx x.kids∧Nd w S sy y.kids:=by
 cases h with
 | row g c ts sl hs h0 hc hk=>exact ⟨g,c,sl 0,sl 1,rfl,hs,hc 0 x rfl,hc 1 y rfl,hk 0 x rfl,hk 1 y rfl⟩
theorem taken_is (ks:List Tr) (loc:List ByteArray) (nm:ByteArray):takenK ks [] loc nm=(decide (0<decN ks nm) || decide (0<cntK loc nm)):=by
 unfold takenK
 rw [show (besK [] nm).isSome=false from rfl,Bool.or_false]
theorem dec_none {ks:List Tr} {nm:ByteArray} (h:∀ (j:Nat) (k:Tr),ks[j]?=some k→eqB k.name nm=false):decN ks nm=0:=by
 unfold decN
 rw [List.countP_eq_zero]
 intro x hx
 obtain ⟨j,hj⟩:=List.mem_iff_getElem?.1 hx
 rw [h j x hj]
 decide
theorem dec_some {ks:List Tr} {nm:ByteArray} {k:Tr} {j:Nat} (hj:ks[j]?=some k) (h:eqB k.name nm=true):0<decN ks nm:=by
 unfold decN
 rw [List.countP_pos_iff]
 exact ⟨k,List.mem_iff_getElem?.2 ⟨j,hj⟩,h⟩
end Go.Proofs.YtonmdlhlkacppaaDoor
