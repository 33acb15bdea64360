/- Parts of the proof. -/
import Derived.Test.YtbeahnehjannpaaDoorKD
import Derived.Laws.AppendOwn
import Derived.BigQuiet
import Derived.Deep.RegionHeld3
namespace Go.Proofs.YtbeahnehjannpaaDoor
open Go.RowKit
set_option linter.unusedVariables false
set_option linter.unusedSimpArgs false
abbrev Gr (w w':World) (p:Nat):Prop:=w.grownBy w' (some p)
theorem Gr.refl (w:World) (p:Nat):Gr w w p:=⟨rfl,rfl,rfl,Nat.le_refl _,fun _ _ _=>rfl⟩
theorem Gr.trans {a b c:World} {p:Nat} (h:Gr a b p) (k:Gr b c p):Gr a c p :=
 ⟨k.os.trans h.os,k.tape.trans h.tape,k.output.trans h.output,Nat.le_trans h.size k.size,fun i hi ne=>(k.block i (Nat.lt_of_lt_of_le hi h.size) ne).trans (h.block i hi ne)⟩
theorem Gr.own {a b c:World} {p:Nat} {row:Option Nat} (h:Gr a b p) (k:b.grownBy c row) (hr:∀ i,row=some i→a.heap.size≤i):Gr a c p :=
 ⟨k.os.trans h.os,k.tape.trans h.tape,k.output.trans h.output,Nat.le_trans h.size k.size,fun i hi ne=>(k.block i (Nat.lt_of_lt_of_le hi h.size) (fun e=>by have:=hr i e.symm;omega)).trans (h.block i hi ne)⟩
theorem Gr.below {a b c:World} {p:Nat} (h:Gr a b p) (k:Below b.heap.size b c):Gr a c p :=
 ⟨k.os.trans h.os,k.tape.trans h.tape,k.output.trans h.output,Nat.le_trans h.size k.size,fun i hi ne=>(k.block i (Nat.lt_of_lt_of_le hi h.size)).trans (h.block i hi ne)⟩
theorem Gr.bel {a b c:World} {p:Nat} (h:Gr a b p) {B:Nat} (hB:a.heap.size≤B) (k:Below B b c):Gr a c p :=
 ⟨k.os.trans h.os,k.tape.trans h.tape,k.output.trans h.output,Nat.le_trans h.size k.size,fun i hi ne=>(k.block i (by omega)).trans (h.block i hi ne)⟩
theorem Gr.alloc {a b:World} {p:Nat} (h:Gr a b p) (o:Obj):Gr a (b.alloc o) p:=h.below ((Below.refl _ _).alloc (Nat.le_refl _) o)
theorem Gr.drew {a b:World} {p:Nat} (h:Gr a b p):Gr a b.drew p:=h.below (Below.refl _ _).drew
theorem Gr.set {a b:World} {p i:Nat} (h:Gr a b p) (u:Value):Gr a (b.setCell ⟨p,i,none⟩ u) p :=
 ⟨h.os,h.tape,h.output,by simpa using h.size,fun k hk ne=>(Below.heap_setCell b ⟨p,i,none⟩ u k (fun e=>ne (by rw [e]))).trans (h.block k hk ne)⟩
theorem Gr.put {a b:World} {p q i:Nat} (h:Gr a b p) (hq:a.heap.size≤q) (u:Value):Gr a (b.setCell ⟨q,i,none⟩ u) p:=h.bel (B:=a.heap.size) (Nat.le_refl _) ((Below.refl _ _).setCell (p:=⟨q,i,none⟩) hq u)
structure Ps (w:World) (p b c:Nat) (ws:List Wo) (k:Nat) (o:Option Nat):Prop where
 c0:w.cell? ⟨p,0,none⟩=some (.slice (some ⟨b,0,none⟩) ws.length c)
 c1:w.cell? ⟨p,1,none⟩=some (.int .i64 (k:Nat))
 c2:w.cell? ⟨p,2,none⟩=some (.bool o.isSome)
 c3:w.cell? ⟨p,3,none⟩=some (.int .i64 (o.getD 0:Nat))
 fz:∀ i,w.frozen? ⟨p,i,none⟩=false
 w0:∀ i x,ws[i]?=some x→w.cell? ⟨b,i*4,none⟩=some (.int .i64 (x.k:Nat))
 w1:∀ i x,ws[i]?=some x→w.cell? ⟨b,i*4+1,none⟩=some (.string x.t)
 w2:∀ i x,ws[i]?=some x→w.cell? ⟨b,i*4+2,none⟩=some (.int .i64 (x.n:Nat))
 w3:∀ i x,ws[i]?=some x→w.cell? ⟨b,i*4+3,none⟩=some (.int .i64 (x.a:Nat))
 ne:p≠b
 lt:k<ws.length
 len:ws.length≤9000
 last:∀ x,ws[ws.length - 1]?=some x→x.k=0∧x.t=⟨#[]⟩
theorem Ps.pl {w:World} {p b c:Nat} {ws:List Wo} {k:Nat} {o:Option Nat} (h:Ps w p b c ws k o):p<w.heap.size:=World.block_lt_of_cell? _ _ h.c0
theorem Ps.bl {w:World} {p b c:Nat} {ws:List Wo} {k:Nat} {o:Option Nat} (h:Ps w p b c ws k o):b<w.heap.size:=by
 obtain ⟨x,hx⟩:∃ x,ws[k]?=some x:=⟨_,List.getElem?_eq_getElem h.lt⟩
 exact World.block_lt_of_cell? _ _ (h.w0 k x hx)
theorem Ps.keep {w w':World} {p b c:Nat} {ws:List Wo} {k:Nat} {o:Option Nat} (h:Ps w p b c ws k o) (hp:w'.heap[p]?=w.heap[p]?) (hb:w'.heap[b]?=w.heap[b]?):Ps w' p b c ws k o:=by
 have e:∀ i,w'.cell? ⟨p,i,none⟩=w.cell? ⟨p,i,none⟩:=fun i=>World.cell?_of_block (a:=⟨p,i,none⟩) hp
 have f:∀ i,w'.cell? ⟨b,i,none⟩=w.cell? ⟨b,i,none⟩:=fun i=>World.cell?_of_block (a:=⟨b,i,none⟩) hb
 refine ⟨by rw [e];exact h.c0,by rw [e];exact h.c1,by rw [e];exact h.c2,by rw [e];exact h.c3,fun i=>by rw [World.frozen?_of_block (a:=⟨p,i,none⟩) hp];exact h.fz i,?_,?_,?_,?_,h.ne,h.lt,h.len,h.last⟩
 ·intro i x q;rw [f];exact h.w0 i x q
 ·intro i x q;rw [f];exact h.w1 i x q
 ·intro i x q;rw [f];exact h.w2 i x q
 ·intro i x q;rw [f];exact h.w3 i x q
theorem Ps.below {w w':World} {p b c:Nat} {ws:List Wo} {k:Nat} {o:Option Nat} (h:Ps w p b c ws k o) {B:Nat} (hb:Below B w w') (h1:p<B) (h2:b<B):Ps w' p b c ws k o:=h.keep (hb.block p h1) (hb.block b h2)
theorem Ps.next {w w':World} {p b c:Nat} {ws:List Wo} {k:Nat} {o:Option Nat} (h:Ps w p b c ws k o) (hb:Below w.heap.size w w'):Ps w' p b c ws k o:=h.below hb h.pl h.bl
theorem Ps.grown {w w':World} {p b c:Nat} {ws:List Wo} {k:Nat} {o:Option Nat} {row:Option Nat} (h:Ps w p b c ws k o) (hg:w.grownBy w' row) (h1:some p≠row) (h2:some b≠row):Ps w' p b c ws k o:=h.keep (hg.block p h.pl h1) (hg.block b h.bl h2)
theorem Ps.put {w:World} {p b c:Nat} {ws:List Wo} {k:Nat} {o:Option Nat} (h:Ps w p b c ws k o) {q i:Nat} (h1:p≠q) (h2:b≠q) (u:Value):Ps (w.setCell ⟨q,i,none⟩ u) p b c ws k o:=h.keep (Below.heap_setCell w ⟨q,i,none⟩ u p h1) (Below.heap_setCell w ⟨q,i,none⟩ u b h2)
theorem cell_ne {w:World} {p q i j:Nat} {u:Value} (h:¬ (p=q∧i=j)):(w.setCell ⟨p,i,none⟩ u).cell? ⟨q,j,none⟩=w.cell? ⟨q,j,none⟩:=by
 refine World.cell?_setCell_other _ _ _ _ ?_
 intro e
 injection e with e1 e2
 exact h ⟨e1,e2⟩
theorem cell_eq {w:World} {p i:Nat} {u v:Value} (h:w.cell? ⟨p,i,none⟩=some v):(w.setCell ⟨p,i,none⟩ u).cell? ⟨p,i,none⟩=some u:=World.cell?_setCell_same _ _ _ h
theorem Ps.step {w:World} {p b c:Nat} {ws:List Wo} {k:Nat} {o:Option Nat} (h:Ps w p b c ws k o) (hk:k+1<ws.length):Ps (w.setCell ⟨p,1,none⟩ (.int .i64 ((k:Int)+1))) p b c ws (k+1) o:=by
 have f:∀ i,(w.setCell ⟨p,1,none⟩ (.int .i64 ((k:Int)+1))).cell? ⟨b,i,none⟩=w.cell? ⟨b,i,none⟩:=fun i=>cell_ne fun e=>h.ne e.1
 refine ⟨by rw [cell_ne (by omega)];exact h.c0,?_,by rw [cell_ne (by omega)];exact h.c2,by rw [cell_ne (by omega)];exact h.c3,fun i=>by simpa using h.fz i,?_,?_,?_,?_,h.ne,hk,h.len,h.last⟩
 ·rw [cell_eq h.c1];rfl
 ·intro i x q;rw [f];exact h.w0 i x q
 ·intro i x q;rw [f];exact h.w1 i x q
 ·intro i x q;rw [f];exact h.w2 i x q
 ·intro i x q;rw [f];exact h.w3 i x q
structure Cur (w:World) (b:Nat) (ws:List Wo) (k:Nat) (x:Wo):Prop where
 at_:ws[k]?=some x
 dr:ws.drop k=x :: ws.drop (k+1)
 d0:w.cell? ⟨b,k*4,none⟩=some (.int .i64 (x.k:Nat))
 d1:w.cell? ⟨b,k*4+1,none⟩=some (.string x.t)
 d2:w.cell? ⟨b,k*4+2,none⟩=some (.int .i64 (x.n:Nat))
 d3:w.cell? ⟨b,k*4+3,none⟩=some (.int .i64 (x.a:Nat))
theorem Ps.cur {w:World} {p b c:Nat} {ws:List Wo} {k:Nat} {o:Option Nat} (h:Ps w p b c ws k o):∃ x,Cur w b ws k x:=by
 have e:=List.getElem?_eq_getElem h.lt
 exact ⟨_,e,List.drop_eq_getElem_cons h.lt,h.w0 _ _ e,h.w1 _ _ e,h.w2 _ _ e,h.w3 _ _ e⟩
theorem Ps.more {w:World} {p b c:Nat} {ws:List Wo} {k:Nat} {o:Option Nat} {x:Wo} (h:Ps w p b c ws k o) (hx:ws[k]?=some x) (hn:x.k≠0∨x.t≠⟨#[]⟩):k+1<ws.length:=by
 rcases Nat.lt_or_ge (k+1) ws.length with q | q
 ·exact q
 ·have:=h.lt
  have e:k=ws.length - 1:=by omega
  have:=h.last x (by rw [← e];exact hx)
  rcases hn with n | n
  ·exact absurd this.1 n
  ·exact absurd this.2 n
def nC (x:Tr × Value):List Value:=[.string x.1.op,.string x.1.name,.int .i64 (x.1.kind:Nat),.int .i64 x.1.n,.int .i64 (x.1.pl:Nat),x.2]
structure NC (w:World) (g o:Nat) (t:Tr) (sl:Value):Prop where
 e0:w.cell? ⟨g,o,none⟩=some (.string t.op)
 e1:w.cell? ⟨g,o+1,none⟩=some (.string t.name)
 e2:w.cell? ⟨g,o+2,none⟩=some (.int .i64 (t.kind:Nat))
 e3:w.cell? ⟨g,o+3,none⟩=some (.int .i64 t.n)
 e4:w.cell? ⟨g,o+4,none⟩=some (.int .i64 (t.pl:Nat))
 e5:w.cell? ⟨g,o+5,none⟩=some sl
theorem NC.keep {w w':World} {g o:Nat} {t:Tr} {sl:Value} (h:NC w g o t sl) (e:w'.heap[g]?=w.heap[g]?):NC w' g o t sl:=by
 have f:∀ i,w'.cell? ⟨g,i,none⟩=w.cell? ⟨g,i,none⟩:=fun i=>World.cell?_of_block (a:=⟨g,i,none⟩) e
 exact ⟨by rw [f];exact h.e0,by rw [f];exact h.e1,by rw [f];exact h.e2,by rw [f];exact h.e3,by rw [f];exact h.e4,by rw [f];exact h.e5⟩
inductive Nd (w:World) (S:Nat→Prop):Value→List Tr→Prop
 | nil:Nd w S (.slice none 0 0) []
 | row (g c:Nat) (ts:List Tr) (sl:Nat→Value) (hs:S g) (h0:ts≠[]) (hc:∀ i t,ts[i]?=some t→NC w g (i*6) t (sl i)) (hk:∀ i t,ts[i]?=some t→Nd w S (sl i) t.kids):Nd w S (.slice (some ⟨g,0,none⟩) ts.length c) ts
theorem Nd.keep {w w':World} {S S':Nat→Prop} {v:Value} {ts:List Tr} (h:Nd w S v ts) (hk:∀ g,S g→g<w.heap.size→S' g∧w'.heap[g]?=w.heap[g]?):Nd w' S' v ts:=by
 induction h with
 | nil=>exact .nil
 | row g c ts sl hs h0 hc _ ih =>
  have lt:g<w.heap.size:=by
   cases ts with
   | nil=>exact absurd rfl h0
   | cons t ts=>exact World.block_lt_of_cell? _ _ (hc 0 t rfl).e0
  have q:=hk g hs lt
  exact .row g c ts sl q.1 h0 (fun i t e=>(hc i t e).keep q.2) (fun i t e=>ih i t e)
def Nv (w:World) (S:Nat→Prop) (v:Value) (t:Tr):Prop:=∃ sl,v=.agg #[.string t.op,.string t.name,.int .i64 (t.kind:Nat),.int .i64 t.n,.int .i64 (t.pl:Nat),sl]∧Nd w S sl t.kids
theorem Nv.keep {w w':World} {S S':Nat→Prop} {v:Value} {t:Tr} (h:Nv w S v t) (hk:∀ g,S g→g<w.heap.size→S' g∧w'.heap[g]?=w.heap[g]?):Nv w' S' v t:=by
 obtain ⟨sl,e,n⟩:=h
 exact ⟨sl,e,n.keep hk⟩
theorem Nd.gr {w w':World} {p n:Nat} {v:Value} {ts:List Tr} (h:Nd w (fun g=>n≤g) v ts) (hg:Gr w w' p) (hp:p<n):Nd w' (fun g=>n≤g) v ts :=
 h.keep fun g s l=>⟨s,hg.block g l (fun e=>by injection e with e;omega)⟩
theorem Nd.next {w w':World} {n:Nat} {v:Value} {ts:List Tr} (h:Nd w (fun g=>n≤g) v ts) (hb:Below w.heap.size w w'):Nd w' (fun g=>n≤g) v ts :=
 h.keep fun g s l=>⟨s,hb.block g l⟩
theorem Nd.put {w:World} {n:Nat} {v:Value} {ts:List Tr} {S:Nat→Prop} (h:Nd w S v ts) {q i:Nat} (hq:¬ S q) (u:Value):Nd (w.setCell ⟨q,i,none⟩ u) S v ts :=
 h.keep fun g s l=>⟨s,Below.heap_setCell w ⟨q,i,none⟩ u g (fun e=>hq (by have e:g=q:=e;rw [← e];exact s))⟩
theorem Nd.weak {w:World} {n m:Nat} {v:Value} {ts:List Tr} (h:Nd w (fun g=>n≤g) v ts) (hm:m≤n):Nd w (fun g=>m≤g) v ts:=h.keep fun g s l=>⟨Nat.le_trans hm s,rfl⟩
structure Kr (w:World) (base:Nat) (v:Value) (ts:List Tr):Prop where
 ex:∃ R:List (Tr × Value),R.map Prod.fst=ts∧w.ownsRow base 28 6 v R.length (R.flatMap nC)∧(∀ x ∈ R,Nd w (fun g=>base≤g∧some g≠v.ownBlock) x.2 x.1.kids)∧(R=[]→v=.slice none 0 0)
theorem Kr.nil (w:World) (base:Nat):Kr w base (.slice none 0 0) []:=⟨[],rfl,World.ownsRow_nil _ _ _ _,fun x h=>by simp at h,fun _=>rfl⟩
theorem Kr.keep {w w':World} {base:Nat} {v:Value} {ts:List Tr} (h:Kr w base v ts) (hk:∀ g,base≤g→g<w.heap.size→w'.heap[g]?=w.heap[g]?):Kr w' base v ts:=by
 obtain ⟨R,e,o,n,z⟩:=h.ex
 refine ⟨R,e,⟨o.1,?_⟩,fun x q=>(n x q).keep fun g s l=>⟨s,hk g s.1 l⟩,z⟩
 rcases o.2 with hn | ⟨g,cap,cur,hv,hb,hg,rest⟩
 ·exact .inl hn
 ·refine .inr ⟨g,cap,cur,hv,hb,?_,rest⟩
  rw [hk g hb (Array.getElem?_eq_some_iff.1 hg).1]
  exact hg
theorem Kr.gr {w w':World} {base p:Nat} {v:Value} {ts:List Tr} (h:Kr w base v ts) (hg:Gr w w' p) (hp:p<base):Kr w' base v ts :=
 h.keep fun g s l=>hg.block g l (fun e=>by injection e with e;omega)
theorem Kr.next {w w':World} {base:Nat} {v:Value} {ts:List Tr} (h:Kr w base v ts) (hb:Below w.heap.size w w'):Kr w' base v ts:=h.keep fun g s l=>hb.block g l
theorem Kr.put {w:World} {base:Nat} {v:Value} {ts:List Tr} (h:Kr w base v ts) {q i:Nat} (hq:q<base) (u:Value):Kr (w.setCell ⟨q,i,none⟩ u) base v ts :=
 h.keep fun g s l=>Below.heap_setCell w ⟨q,i,none⟩ u g (by show g≠q;omega)
theorem Kr.lt {w:World} {base:Nat} {v:Value} {ts:List Tr} (h:Kr w base v ts):∀ k,v.ownBlock=some k→base≤k∧k<w.heap.size:=by
 obtain ⟨R,_,o,_,_⟩:=h.ex
 exact World.ownsRow.lt o
theorem flat_at:∀ (R:List (Tr × Value)) (i:Nat) (x:Tr × Value) (j:Nat),R[i]?=some x→j<6→(R.flatMap nC)[i*6+j]?=(nC x)[j]?
 | [],i,x,j,h,hj=>by simp at h
 | y :: R,0,x,j,h,hj=>by
  simp at h
  subst h
  rw [List.flatMap_cons,List.getElem?_append_left (by show _<6;omega)]
  simp
 | y :: R,i+1,x,j,h,hj=>by
  have l:(nC y).length=6:=rfl
  rw [List.flatMap_cons,List.getElem?_append_right (by omega),l,show (i+1)*6+j - 6=i*6+j by omega]
  exact flat_at R i x j (by simpa using h) hj
theorem Kr.nd {w:World} {base:Nat} {v:Value} {ts:List Tr} (h:Kr w base v ts):Nd w (fun g=>base≤g) v ts:=by
 obtain ⟨R,rfl,o,n,z⟩:=h.ex
 rcases o.2 with ⟨rfl,h1⟩ | ⟨g,cap,cur,rfl,hb,hg,hn,hm,hs,ht⟩
 ·have e:R=[]:=List.eq_nil_of_length_eq_zero h1
  subst e
  exact .nil
 ·have cell:∀ (j:Nat) (u:Value),(R.flatMap nC)[j]?=some u→w.cell? ⟨g,j,none⟩=some u:=fun j u hu=>by
   have l:=(List.getElem?_eq_some_iff.1 hu).1
   have l2:=o.1
   rw [← ht,List.getElem?_take_of_lt (by omega),Array.getElem?_toList] at hu
   simp [World.cell?,hg,hu]
  cases R with
  | nil=>cases z rfl
  | cons y R =>
   have q:=Nd.row (w:=w) (S:=fun g=>base≤g) g cap ((y :: R).map Prod.fst) (fun i=>(((y :: R)[i]?).map Prod.snd).getD (.slice none 0 0)) hb (by simp) ?_ ?_
   ·simpa using q
   ·intro i t e
    rw [List.getElem?_map] at e
    obtain ⟨x,hx,rfl⟩:=Option.map_eq_some_iff.1 e
    rw [hx]
    exact ⟨cell _ _ ((flat_at _ i x 0 hx (by decide)).trans rfl),cell _ _ ((flat_at _ i x 1 hx (by decide)).trans rfl),cell _ _ ((flat_at _ i x 2 hx (by decide)).trans rfl),cell _ _ ((flat_at _ i x 3 hx (by decide)).trans rfl),cell _ _ ((flat_at _ i x 4 hx (by decide)).trans rfl),cell _ _ ((flat_at _ i x 5 hx (by decide)).trans rfl)⟩
   ·intro i t e
    rw [List.getElem?_map] at e
    obtain ⟨x,hx,rfl⟩:=Option.map_eq_some_iff.1 e
    rw [hx]
    exact (n x (List.mem_of_getElem? hx)).keep fun g s l=>⟨s.1,rfl⟩
theorem nodeInfo:(Tryd.prog.info? 28).map (fun i=>(i.zero,i.size,i.bytes))=some (some (.agg #[.string ⟨#[]⟩,.string ⟨#[]⟩,.int .i64 0,.int .i64 0,.int .i64 0,.slice none 0 0]),6,80):=by kernel_rfl
theorem run_app {P:Program} (w:World) (base:Nat) (t ty e:TypeId) (i:TypeInfo) (z:Value) (size bytes:Nat) (ht:P.underlying t=some (.slice e)) (hi:P.info? e=some i) (hz:i.zero=some z)
  (hsize:i.size=size) (hby:i.bytes=bytes) (hzs:z.cells.size=size) (hsz:0<size)
  (v:Value) (n:Nat) (xs:List Value) (hown:w.ownsRow base e size v n xs)
  (a:Addr) (c:Nat) (news:List Value) (hl:news.length=1*size) (hnews:∀ j u,news[j]?=some u→w.cell? (a.add j)=some u) (h1:∀ u ∈ news,u.oneCell'=true)
  (h63:n+1≤maxLen) (hbytes:(n+1)*bytes≤140737488355328) (hbase:base≤w.heap.size) :
  ∃ v' w',(Builtin.append_ #[t,t] ty #[v,.slice (some a) 1 c]).run P w=.ok v' w'∧w'.ownsRow base e size v' (n+1) (xs ++ news)∧w.grownBy w' v.ownBlock∧(v'.ownBlock=v.ownBlock∨v'.ownBlock=some w.heap.size):=by
 obtain ⟨v',w',hr,h2,h3,h4⟩:=run_append_own (P:=P) w base t ty e i z size bytes ht hi hz hsize hby hzs hsz v n xs hown a 1 c news hl hnews h1 h63 hbytes hbase
 refine ⟨v',w',hr,h2,h3,?_⟩
 rcases hown.2 with ⟨rfl,rfl⟩ | ⟨g,cap,cur,rfl,hbg,hg,hnc,hcm,hcs,htake⟩
 ·obtain ⟨v2,w2,hr2,k2,_,_⟩:=run_append_own (P:=P) w w.heap.size t ty e i z size bytes ht hi hz hsize hby hzs hsz (.slice none 0 0) 0 xs ⟨hown.1,.inl ⟨rfl,rfl⟩⟩ a 1 c news hl hnews h1 h63 hbytes (Nat.le_refl _)
  rw [hr] at hr2
  injection hr2 with e1 e2
  subst e1 e2
  have hx:xs=[]:=List.eq_nil_of_length_eq_zero (by simpa using hown.1)
  subst hx
  subst hsize hby
  have hr3:=run_append_nil (P:=P) w t ty e i z ht hi hz a 1 c news hl hnews (by omega) (by omega) (by have hb:=hbytes;simp only [Nat.zero_add] at hb;omega)
  rw [hr] at hr3
  injection hr3 with e1 e2
  subst e1
  exact .inr rfl
 ·subst hsize hby
  by_cases hroom:n+1≤cap
  ·have hfit:n*i.size+news.length≤cur.size:=by rw [hl,hcs,← Nat.add_mul];exact Nat.mul_le_mul_right _ hroom
   have hr2:=run_append_room (P:=P) w t ty e i ht hi g n cap cur hg a 1 c news hl hnews h1 hroom hfit
   rw [hr] at hr2
   injection hr2 with e1 e2
   subst e1
   exact .inl rfl
  ·have hr2:=run_append_grow (P:=P) w t ty e i z ht hi hz ⟨g,0,none⟩ n cap xs hown.1 (hown.cells (g:=g) rfl) a 1 c news hl hnews (by omega) (by simp only [maxLen] at h63;omega) (growslice_fits (by omega) hbytes)
   rw [hr] at hr2
   injection hr2 with e1 e2
   subst e1
   exact .inr rfl
theorem Kr.add {w w':World} {base:Nat} {v v':Value} {ts:List Tr} {t:Tr} {sl:Value} {R:List (Tr × Value)} (e:R.map Prod.fst=ts) (n:∀ x ∈ R,Nd w (fun g=>base≤g∧some g≠v.ownBlock) x.2 x.1.kids) (hn:Nd w (fun g=>base≤g∧some g≠v.ownBlock) sl t.kids)
  (o:w'.ownsRow base 28 6 v' (R.length+1) (R.flatMap nC ++ nC (t,sl))) (hg:w.grownBy w' v.ownBlock) (hw:v'.ownBlock=v.ownBlock∨v'.ownBlock=some w.heap.size):Kr w' base v' (ts ++ [t]):=by
 have kp:∀ g,(base≤g∧some g≠v.ownBlock)→g<w.heap.size→(base≤g∧some g≠v'.ownBlock)∧w'.heap[g]?=w.heap[g]?:=fun g s l=>⟨⟨s.1,by
  rcases hw with q | q
  ·rw [q];exact s.2
  ·rw [q];intro e;injection e with e;omega⟩,hg.block g l s.2⟩
 refine ⟨R ++ [(t,sl)],by simp [e],?_,?_,fun q=>by simp at q⟩
 ·rw [List.length_append,List.flatMap_append,List.flatMap_cons,List.flatMap_nil,List.append_nil]
  exact o
 ·intro x hx
  rcases List.mem_append.1 hx with q | q
  ·exact (n x q).keep kp
  ·obtain rfl:=List.mem_singleton.1 q
   exact hn.keep kp
theorem nd_one {w:World} {S:Nat→Prop} {v:Value} {ts:List Tr} (h:Nd w S v ts):v.oneCell'=true:=by
 cases h <;> rfl
theorem take2 {P:Program} {md:Region.Mode} {ops:Array Oper} {Q:Exit→Act→World→Prop} {S:World→Prop} {l:List Oper} (hl:ops=l.toArray) {i:Nat} {oi:Oper} {v:Value} {d:Tmp} {fuel:Nat} {listed:Array Bool} {a:Act} {w:World} (hi:l[i]?=some oi) (hd:oi.dst=some d)
  (hs:Region.noSelect ops=true) (hf:Region.free md ops listed i=true) (hr:(Region.ready md ops listed).contains i=true)
  (hQ:∀ c a w,Q (.panic c) (a.put oi.dst v) w→Q (.panic c) a w) (hy:YieldsIf P ops S oi v a) (hS:S w)
  (h:wpAnyH P md ops Q S fuel (listed.setIfInBounds i true) (a.put (some d) v) w):wpAnyH P md ops Q S (fuel+1) listed a w :=
 wpAnyH_take (by rw [hl];simpa using hi) hs hf hr hQ hy hS (by rw [hd];exact h)
theorem cons2 {P:Program} {md:Region.Mode} {ops:Array Oper} {Q:Exit→Act→World→Prop} {S:World→Prop} {l:List Oper} (hl:ops=l.toArray) {fuel:Nat} {listed:Array Bool} {a:Act} {w:World} {i:Nat} {o:Oper} (ho:l[i]?=some o)
  (h:∀ K':Act→World→Prop,Shut (∀ a w,S w→(S w→wpAnyH P md ops Q S fuel (listed.setIfInBounds i true) a w)→K' a w)→if Region.wanted o (yielded ops a.tmps)=true then Oper.wp P o a w K' Q else K' (a.put o.dst undef) w) :
  AllReadyH P md ops Q S fuel listed a w [i]:=AllReadyH.cons (by rw [hl];simpa using ho) h AllReadyH.nil
theorem cons22 {P:Program} {md:Region.Mode} {ops:Array Oper} {Q:Exit→Act→World→Prop} {S:World→Prop} {l:List Oper} (hl:ops=l.toArray) {fuel:Nat} {listed:Array Bool} {a:Act} {w:World} {i j:Nat} {o p:Oper} (ho:l[i]?=some o) (hp:l[j]?=some p)
  (h:∀ K':Act→World→Prop,Shut (∀ a w,S w→(S w→wpAnyH P md ops Q S fuel (listed.setIfInBounds i true) a w)→K' a w)→if Region.wanted o (yielded ops a.tmps)=true then Oper.wp P o a w K' Q else K' (a.put o.dst undef) w)
  (k:∀ K':Act→World→Prop,Shut (∀ a w,S w→(S w→wpAnyH P md ops Q S fuel (listed.setIfInBounds j true) a w)→K' a w)→if Region.wanted p (yielded ops a.tmps)=true then Oper.wp P p a w K' Q else K' (a.put p.dst undef) w) :
  AllReadyH P md ops Q S fuel listed a w [i,j]:=AllReadyH.cons (by rw [hl];simpa using ho) h (AllReadyH.cons (by rw [hl];simpa using hp) k AllReadyH.nil)
theorem eqB_is (a b:ByteArray):(a.toList==b.toList)=eqB a b:=by
 unfold eqB
 rw [ByteArray.toList_eq,ByteArray.toList_eq]
theorem drewN_below (w:World) (n:Nat):Below w.heap.size w (w.drewN n):=⟨rfl,rfl,rfl,Nat.le_refl _,fun _ _=>rfl⟩
structure B6 (w:World) (b:Nat) (v0 v1 v2 v3 v4 v5:Value):Prop where
 c0:w.cell? ⟨b,0,none⟩=some v0
 c1:w.cell? ⟨b,1,none⟩=some v1
 c2:w.cell? ⟨b,2,none⟩=some v2
 c3:w.cell? ⟨b,3,none⟩=some v3
 c4:w.cell? ⟨b,4,none⟩=some v4
 c5:w.cell? ⟨b,5,none⟩=some v5
 fz:∀ o,w.frozen? ⟨b,o,none⟩=false
theorem B6.lt {w:World} {b:Nat} {v0 v1 v2 v3 v4 v5:Value} (h:B6 w b v0 v1 v2 v3 v4 v5):b<w.heap.size:=World.block_lt_of_cell? _ _ h.c0
theorem B6.new (w:World) (t:TypeId) (v0 v1 v2 v3 v4 v5:Value):B6 (w.alloc (.cells #[v0,v1,v2,v3,v4,v5] t)) w.heap.size v0 v1 v2 v3 v4 v5:=⟨by simp,by simp,by simp,by simp,by simp,by simp,fun o=>by simp⟩
theorem B6.keep {w w':World} {b:Nat} {v0 v1 v2 v3 v4 v5:Value} (h:B6 w b v0 v1 v2 v3 v4 v5) (e:w'.heap[b]?=w.heap[b]?):B6 w' b v0 v1 v2 v3 v4 v5:=by
 have f:∀ i,w'.cell? ⟨b,i,none⟩=w.cell? ⟨b,i,none⟩:=fun i=>World.cell?_of_block (a:=⟨b,i,none⟩) e
 exact ⟨by rw [f];exact h.c0,by rw [f];exact h.c1,by rw [f];exact h.c2,by rw [f];exact h.c3,by rw [f];exact h.c4,by rw [f];exact h.c5,fun o=>by rw [World.frozen?_of_block (a:=⟨b,o,none⟩) e];exact h.fz o⟩
theorem B6.next {w w':World} {b:Nat} {v0 v1 v2 v3 v4 v5:Value} (h:B6 w b v0 v1 v2 v3 v4 v5) (q:Below w.heap.size w w'):B6 w' b v0 v1 v2 v3 v4 v5:=h.keep (q.block b h.lt)
theorem B6.gr {w w':World} {b p:Nat} {v0 v1 v2 v3 v4 v5:Value} (h:B6 w b v0 v1 v2 v3 v4 v5) (q:Gr w w' p) (ne:b≠p):B6 w' b v0 v1 v2 v3 v4 v5:=h.keep (q.block b h.lt (fun e=>ne (by injection e)))
theorem B6.grown {w w':World} {b:Nat} {row:Option Nat} {v0 v1 v2 v3 v4 v5:Value} (h:B6 w b v0 v1 v2 v3 v4 v5) (q:w.grownBy w' row) (ne:some b≠row):B6 w' b v0 v1 v2 v3 v4 v5:=h.keep (q.block b h.lt ne)
theorem B6.put {w:World} {b q i:Nat} {v0 v1 v2 v3 v4 v5:Value} (h:B6 w b v0 v1 v2 v3 v4 v5) (ne:b≠q) (u:Value):B6 (w.setCell ⟨q,i,none⟩ u) b v0 v1 v2 v3 v4 v5:=h.keep (Below.heap_setCell w ⟨q,i,none⟩ u b ne)
theorem B6.set0 {w:World} {b:Nat} {v0 v1 v2 v3 v4 v5:Value} (h:B6 w b v0 v1 v2 v3 v4 v5) (u:Value):B6 (w.setCell ⟨b,0,none⟩ u) b u v1 v2 v3 v4 v5:=⟨cell_eq h.c0,(cell_ne (by omega)).trans h.c1,(cell_ne (by omega)).trans h.c2,(cell_ne (by omega)).trans h.c3,(cell_ne (by omega)).trans h.c4,(cell_ne (by omega)).trans h.c5,fun o=>by simpa using h.fz o⟩
theorem B6.set1 {w:World} {b:Nat} {v0 v1 v2 v3 v4 v5:Value} (h:B6 w b v0 v1 v2 v3 v4 v5) (u:Value):B6 (w.setCell ⟨b,1,none⟩ u) b v0 u v2 v3 v4 v5:=⟨(cell_ne (by omega)).trans h.c0,cell_eq h.c1,(cell_ne (by omega)).trans h.c2,(cell_ne (by omega)).trans h.c3,(cell_ne (by omega)).trans h.c4,(cell_ne (by omega)).trans h.c5,fun o=>by simpa using h.fz o⟩
theorem B6.set2 {w:World} {b:Nat} {v0 v1 v2 v3 v4 v5:Value} (h:B6 w b v0 v1 v2 v3 v4 v5) (u:Value):B6 (w.setCell ⟨b,2,none⟩ u) b v0 v1 u v3 v4 v5:=⟨(cell_ne (by omega)).trans h.c0,(cell_ne (by omega)).trans h.c1,cell_eq h.c2,(cell_ne (by omega)).trans h.c3,(cell_ne (by omega)).trans h.c4,(cell_ne (by omega)).trans h.c5,fun o=>by simpa using h.fz o⟩
theorem B6.set3 {w:World} {b:Nat} {v0 v1 v2 v3 v4 v5:Value} (h:B6 w b v0 v1 v2 v3 v4 v5) (u:Value):B6 (w.setCell ⟨b,3,none⟩ u) b v0 v1 v2 u v4 v5:=⟨(cell_ne (by omega)).trans h.c0,(cell_ne (by omega)).trans h.c1,(cell_ne (by omega)).trans h.c2,cell_eq h.c3,(cell_ne (by omega)).trans h.c4,(cell_ne (by omega)).trans h.c5,fun o=>by simpa using h.fz o⟩
theorem B6.set4 {w:World} {b:Nat} {v0 v1 v2 v3 v4 v5:Value} (h:B6 w b v0 v1 v2 v3 v4 v5) (u:Value):B6 (w.setCell ⟨b,4,none⟩ u) b v0 v1 v2 v3 u v5:=⟨(cell_ne (by omega)).trans h.c0,(cell_ne (by omega)).trans h.c1,(cell_ne (by omega)).trans h.c2,(cell_ne (by omega)).trans h.c3,cell_eq h.c4,(cell_ne (by omega)).trans h.c5,fun o=>by simpa using h.fz o⟩
theorem B6.set5 {w:World} {b:Nat} {v0 v1 v2 v3 v4 v5:Value} (h:B6 w b v0 v1 v2 v3 v4 v5) (u:Value):B6 (w.setCell ⟨b,5,none⟩ u) b v0 v1 v2 v3 v4 u:=⟨(cell_ne (by omega)).trans h.c0,(cell_ne (by omega)).trans h.c1,(cell_ne (by omega)).trans h.c2,(cell_ne (by omega)).trans h.c3,(cell_ne (by omega)).trans h.c4,cell_eq h.c5,fun o=>by simpa using h.fz o⟩
theorem B6.sets {w:World} {b:Nat} {z0 z1 z2 z3 z4 z5:Value} (h:B6 w b z0 z1 z2 z3 z4 z5) (v0 v1 v2 v3 v4 v5:Value):B6 ((((((w.setCell ⟨b,0,none⟩ v0).setCell ⟨b,1,none⟩ v1).setCell ⟨b,2,none⟩ v2).setCell ⟨b,3,none⟩ v3).setCell ⟨b,4,none⟩ v4).setCell ⟨b,5,none⟩ v5) b v0 v1 v2 v3 v4 v5:=(((((h.set0 v0).set1 v1).set2 v2).set3 v3).set4 v4).set5 v5
theorem Ps.put6 {w:World} {p b c:Nat} {ws:List Wo} {k:Nat} {o:Option Nat} (h:Ps w p b c ws k o) {q:Nat} (h1:p≠q) (h2:b≠q) (v0 v1 v2 v3 v4 v5:Value):Ps ((((((w.setCell ⟨q,0,none⟩ v0).setCell ⟨q,1,none⟩ v1).setCell ⟨q,2,none⟩ v2).setCell ⟨q,3,none⟩ v3).setCell ⟨q,4,none⟩ v4).setCell ⟨q,5,none⟩ v5) p b c ws k o :=
 (((((h.put h1 h2 v0).put h1 h2 v1).put h1 h2 v2).put h1 h2 v3).put h1 h2 v4).put h1 h2 v5
theorem Gr.put6 {a b:World} {p q:Nat} (h:Gr a b p) (hq:a.heap.size≤q) (v0 v1 v2 v3 v4 v5:Value):Gr a ((((((b.setCell ⟨q,0,none⟩ v0).setCell ⟨q,1,none⟩ v1).setCell ⟨q,2,none⟩ v2).setCell ⟨q,3,none⟩ v3).setCell ⟨q,4,none⟩ v4).setCell ⟨q,5,none⟩ v5) p :=
 (((((h.put hq v0).put hq v1).put hq v2).put hq v3).put hq v4).put hq v5
theorem B6.put6 {w:World} {b q:Nat} {z0 z1 z2 z3 z4 z5:Value} (h:B6 w b z0 z1 z2 z3 z4 z5) (ne:b≠q) (v0 v1 v2 v3 v4 v5:Value):B6 ((((((w.setCell ⟨q,0,none⟩ v0).setCell ⟨q,1,none⟩ v1).setCell ⟨q,2,none⟩ v2).setCell ⟨q,3,none⟩ v3).setCell ⟨q,4,none⟩ v4).setCell ⟨q,5,none⟩ v5) b z0 z1 z2 z3 z4 z5:=(((((h.put ne v0).put ne v1).put ne v2).put ne v3).put ne v4).put ne v5
theorem size6 (w:World) (q:Nat) (v0 v1 v2 v3 v4 v5:Value):((((((w.setCell ⟨q,0,none⟩ v0).setCell ⟨q,1,none⟩ v1).setCell ⟨q,2,none⟩ v2).setCell ⟨q,3,none⟩ v3).setCell ⟨q,4,none⟩ v4).setCell ⟨q,5,none⟩ v5).heap.size=w.heap.size:=by simp
theorem heap6 (w:World) (q:Nat) (v0 v1 v2 v3 v4 v5:Value) (k:Nat) (h:k≠q):((((((w.setCell ⟨q,0,none⟩ v0).setCell ⟨q,1,none⟩ v1).setCell ⟨q,2,none⟩ v2).setCell ⟨q,3,none⟩ v3).setCell ⟨q,4,none⟩ v4).setCell ⟨q,5,none⟩ v5).heap[k]?=w.heap[k]?:=by
 rw [Below.heap_setCell _ ⟨q,5,none⟩ _ _ h,Below.heap_setCell _ ⟨q,4,none⟩ _ _ h,Below.heap_setCell _ ⟨q,3,none⟩ _ _ h,Below.heap_setCell _ ⟨q,2,none⟩ _ _ h,Below.heap_setCell _ ⟨q,1,none⟩ _ _ h,Below.heap_setCell _ ⟨q,0,none⟩ _ _ h]
theorem Nd.put6 {w:World} {v:Value} {ts:List Tr} {S:Nat→Prop} (h:Nd w S v ts) {q:Nat} (hq:¬ S q) (v0 v1 v2 v3 v4 v5:Value):Nd ((((((w.setCell ⟨q,0,none⟩ v0).setCell ⟨q,1,none⟩ v1).setCell ⟨q,2,none⟩ v2).setCell ⟨q,3,none⟩ v3).setCell ⟨q,4,none⟩ v4).setCell ⟨q,5,none⟩ v5) S v ts :=
 h.keep fun g s l=>⟨s,heap6 w q v0 v1 v2 v3 v4 v5 g (fun e=>hq (by have e:g=q:=e;rw [← e];exact s))⟩
theorem eqL (a:ByteArray) (l:List UInt8):(a.toList==l)=eqB a ⟨l.toArray⟩:=by rw [ByteArray.toList_eq];rfl
def Rp (w w':World) (p b c:Nat) (ws:List Wo) (k:Nat) (e:Ending) (r:Rs):Prop:=Gr w w' p∧∃ k' v,k≤k'∧(r.t.isSome=true→k<k')∧r.l=ws.drop k'∧Ps w' p b c ws k' r.o∧e=.returned (.tuple #[v,.bool r.t.isSome])∧∃ t,Nv w' (fun g=>w.heap.size≤g) v t∧∀ t',r.t=some t'→t=t'
theorem Rp.yes {w W:World} {p b c:Nat} {ws:List Wo} {r:Rs} {t:Tr} {k k':Nat} {o:Option Nat} {v:Value} (hk:k<k') (hr:r=⟨some t,ws.drop k',o⟩) (hg:Gr w W p) (hp:Ps W p b c ws k' o) (hv:Nv W (fun g=>w.heap.size≤g) v t):Rp w W p b c ws k (.returned (.tuple #[v,.bool true])) r:=by
 subst hr
 exact ⟨hg,k',v,Nat.le_of_lt hk,fun _=>hk,rfl,hp,rfl,t,hv,fun t' e=>by injection e⟩
theorem Rp.no {w W:World} {p b c:Nat} {ws:List Wo} {r:Rs} {t:Tr} {k k':Nat} {o:Option Nat} {v:Value} (hk:k≤k') (hr:r=⟨none,ws.drop k',o⟩) (hg:Gr w W p) (hp:Ps W p b c ws k' o) (hv:Nv W (fun g=>w.heap.size≤g) v t):Rp w W p b c ws k (.returned (.tuple #[v,.bool false])) r:=by
 subst hr
 exact ⟨hg,k',v,hk,fun e=>by (cases e),rfl,hp,rfl,t,hv,fun t' e=>by cases e⟩
end Go.Proofs.YtbeahnehjannpaaDoor
