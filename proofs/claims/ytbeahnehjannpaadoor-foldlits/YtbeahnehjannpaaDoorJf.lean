/- Parts of the proof. -/
import Derived.Test.YtbeahnehjannpaaDoorJe
import Derived.Test.YtbeahnehjannpaaDoorJD
import Derived.Test.YtbeahnehjannpaaDoorKE
import Derived.Laws.MakeOwn
namespace Go.Proofs.YtbeahnehjannpaaDoor
open Go.RowKit
set_option linter.unusedVariables false
set_option linter.unusedSimpArgs false
def ltB (t:Tr):Bool:=eqB t.op ⟨#[108,105,116]⟩ && t.kids.length==0
def reckE (e a b:Tr):Tr:=if (opF e.op (a.kind:Nat) a.n (b.kind:Nat) b.n).2.2=0 then .nd ⟨#[108,105,116]⟩ ⟨#[]⟩ (opF e.op (a.kind:Nat) a.n (b.kind:Nat) b.n).1.toNat (opF e.op (a.kind:Nat) a.n (b.kind:Nat) b.n).2.1 e.pl [] else e
def un2 (o:ByteArray):Bool:=eqB o ⟨#[110,101,103]⟩ || eqB o ⟨#[110,111,116]⟩
def bin12 (o:ByteArray):Bool:=eqB o ⟨#[43]⟩ || eqB o ⟨#[45]⟩ || eqB o ⟨#[42]⟩ || eqB o ⟨#[47]⟩ || eqB o ⟨#[60]⟩ || eqB o ⟨#[60,61]⟩ || eqB o ⟨#[62]⟩ || eqB o ⟨#[62,61]⟩ || eqB o ⟨#[61,61]⟩ || eqB o ⟨#[33,61]⟩ || eqB o ⟨#[109,105,110]⟩ || eqB o ⟨#[109,97,120]⟩
def con2 (o:ByteArray):Bool:=eqB o ⟨#[97,110,100]⟩ || eqB o ⟨#[111,114]⟩
def stpE (e:Tr):Tr :=
 match e.kids with
 | [a]=>if un2 e.op && ltB a then reckE e a Tr.zero else e
 | [a,b]=>if bin12 e.op then (if ltB a && ltB b then reckE e a b else e) else if con2 e.op && ltB a then (if (a.n==1)==eqB e.op ⟨#[111,114]⟩ then a else b) else e
 | [a,b,c]=>if eqB e.op ⟨#[105,102]⟩ && ltB a then (if a.n==1 then b else c) else e
 | _=>e
def Tr.setK (t:Tr) (ks:List Tr):Tr:=match t with | .nd o m k n a _=>.nd o m k n a ks
mutual
def fdE:Tr→Tr
 | .nd op nm kd n pl ts=>stpE (.nd op nm kd n pl (fdL ts))
def fdL:List Tr→List Tr
 | []=>[]
 | t :: ts=>fdE t :: fdL ts
end
theorem fdL_map:∀ ts:List Tr,fdL ts=ts.map fdE
 | []=>by rw [fdL];rfl
 | t :: ts=>by rw [fdL,fdL_map ts];rfl
def fdD (d:Tr):Tr:=if eqB d.op ⟨#[114,117,108,101]⟩ then d.setK (d.kids.map fdE) else d
def fdS (n:Tr):Tr:=n.setK (n.kids.map fdD)
mutual
def szT:Tr→Nat
 | .nd _ _ _ _ _ ts=>1+szL ts
def szL:List Tr→Nat
 | []=>0
 | t :: ts=>szT t+szL ts
end
def FdP (t:Tr) (w:World) (e:Ending) (w':World):Prop:=∃ v,e=.returned v∧Nv w' (fun g=>w.heap.size≤g) v t∧Below w.heap.size w w'
structure Mk (w wr:World) (g n:Nat) (us:List Tr):Prop where
 ex:∃ R:List (Tr × Value),R.map Prod.fst=us∧(∀ i x,R[i]?=some x→NC wr g (i*6) x.1 x.2∧Nd wr (fun h=>w.heap.size≤h∧h≠g) x.2 x.1.kids)
 cl:∀ i,i<n*6→∃ v,wr.cell? ⟨g,i,none⟩=some v
 fz:∀ i,wr.frozen? ⟨g,i,none⟩=false
 bl:Below w.heap.size w wr
 lo:w.heap.size≤g
 up:g<wr.heap.size
theorem Mk.next {w wr w':World} {g n:Nat} {us:List Tr} (h:Mk w wr g n us) (k:Below wr.heap.size wr w'):Mk w w' g n us:=by
 obtain ⟨R,h1,h2⟩:=h.ex
 have e:=k.block g h.up
 have f:∀ i,w'.cell? ⟨g,i,none⟩=wr.cell? ⟨g,i,none⟩:=fun i=>World.cell?_of_block (a:=⟨g,i,none⟩) e
 exact ⟨⟨R,h1,fun i x hx=>⟨(h2 i x hx).1.keep e,(h2 i x hx).2.keep fun b s l=>⟨s,k.block b l⟩⟩⟩,fun i hi=>by rw [f];exact h.cl i hi,fun i=>by rw [World.frozen?_of_block (a:=⟨g,i,none⟩) e];exact h.fz i,nextB h.bl k,h.lo,Nat.lt_of_lt_of_le h.up k.size⟩
theorem heap6o (w:World) (q o:Nat) (v0 v1 v2 v3 v4 v5:Value) (k:Nat) (h:k≠q):((((((w.setCell ⟨q,o,none⟩ v0).setCell ⟨q,o+1,none⟩ v1).setCell ⟨q,o+2,none⟩ v2).setCell ⟨q,o+3,none⟩ v3).setCell ⟨q,o+4,none⟩ v4).setCell ⟨q,o+5,none⟩ v5).heap[k]?=w.heap[k]?:=by
 rw [Below.heap_setCell _ ⟨q,o+5,none⟩ _ _ h,Below.heap_setCell _ ⟨q,o+4,none⟩ _ _ h,Below.heap_setCell _ ⟨q,o+3,none⟩ _ _ h,Below.heap_setCell _ ⟨q,o+2,none⟩ _ _ h,Below.heap_setCell _ ⟨q,o+1,none⟩ _ _ h,Below.heap_setCell _ ⟨q,o,none⟩ _ _ h]
theorem cell6o (w:World) (q o:Nat) (v0 v1 v2 v3 v4 v5:Value) (j:Nat) (h:¬ (o≤j∧j≤o+5)):((((((w.setCell ⟨q,o,none⟩ v0).setCell ⟨q,o+1,none⟩ v1).setCell ⟨q,o+2,none⟩ v2).setCell ⟨q,o+3,none⟩ v3).setCell ⟨q,o+4,none⟩ v4).setCell ⟨q,o+5,none⟩ v5).cell? ⟨q,j,none⟩=w.cell? ⟨q,j,none⟩:=by
 rw [cell_ne (by omega),cell_ne (by omega),cell_ne (by omega),cell_ne (by omega),cell_ne (by omega),cell_ne (by omega)]
theorem Mk.set {w wr:World} {g n:Nat} {us:List Tr} (h:Mk w wr g n us) (hl:us.length<n) (t:Tr) (sl:Value) (hk:Nd wr (fun h=>w.heap.size≤h∧h≠g) sl t.kids) :
  Mk w ((((((wr.setCell ⟨g,us.length*6,none⟩ (.string t.op)).setCell ⟨g,us.length*6+1,none⟩ (.string t.name)).setCell ⟨g,us.length*6+2,none⟩ (.int .i64 (t.kind:Nat))).setCell ⟨g,us.length*6+3,none⟩ (.int .i64 t.n)).setCell ⟨g,us.length*6+4,none⟩ (.int .i64 (t.pl:Nat))).setCell ⟨g,us.length*6+5,none⟩ sl) g n (us ++ [t]):=by
 obtain ⟨R,h1,h2⟩:=h.ex
 have rl:R.length=us.length:=by rw [← h1];simp
 generalize hL:us.length=L at *
 have hp:∀ b,b≠g→((((((wr.setCell ⟨g,L*6,none⟩ (.string t.op)).setCell ⟨g,L*6+1,none⟩ (.string t.name)).setCell ⟨g,L*6+2,none⟩ (.int .i64 (t.kind:Nat))).setCell ⟨g,L*6+3,none⟩ (.int .i64 t.n)).setCell ⟨g,L*6+4,none⟩ (.int .i64 (t.pl:Nat))).setCell ⟨g,L*6+5,none⟩ sl).heap[b]?=wr.heap[b]?:=fun b hb=>heap6o wr g (L*6) _ _ _ _ _ _ b hb
 have co:=fun j h=>cell6o wr g (L*6) (.string t.op) (.string t.name) (.int .i64 (t.kind:Nat)) (.int .i64 t.n) (.int .i64 (t.pl:Nat)) sl j h
 obtain ⟨a0,b0⟩:=h.cl (L*6) (by omega)
 obtain ⟨a1,b1⟩:=h.cl (L*6+1) (by omega)
 obtain ⟨a2,b2⟩:=h.cl (L*6+2) (by omega)
 obtain ⟨a3,b3⟩:=h.cl (L*6+3) (by omega)
 obtain ⟨a4,b4⟩:=h.cl (L*6+4) (by omega)
 obtain ⟨a5,b5⟩:=h.cl (L*6+5) (by omega)
 have nc:NC ((((((wr.setCell ⟨g,L*6,none⟩ (.string t.op)).setCell ⟨g,L*6+1,none⟩ (.string t.name)).setCell ⟨g,L*6+2,none⟩ (.int .i64 (t.kind:Nat))).setCell ⟨g,L*6+3,none⟩ (.int .i64 t.n)).setCell ⟨g,L*6+4,none⟩ (.int .i64 (t.pl:Nat))).setCell ⟨g,L*6+5,none⟩ sl) g (L*6) t sl:=by
  refine ⟨?_,?_,?_,?_,?_,?_⟩
  ·rw [cell_ne (by omega),cell_ne (by omega),cell_ne (by omega),cell_ne (by omega),cell_ne (by omega)];exact cell_eq b0
  ·rw [cell_ne (by omega),cell_ne (by omega),cell_ne (by omega),cell_ne (by omega)];exact cell_eq ((cell_ne (by omega)).trans b1)
  ·rw [cell_ne (by omega),cell_ne (by omega),cell_ne (by omega)];exact cell_eq ((cell_ne (by omega)).trans ((cell_ne (by omega)).trans b2))
  ·rw [cell_ne (by omega),cell_ne (by omega)];exact cell_eq ((cell_ne (by omega)).trans ((cell_ne (by omega)).trans ((cell_ne (by omega)).trans b3)))
  ·rw [cell_ne (by omega)];exact cell_eq ((cell_ne (by omega)).trans ((cell_ne (by omega)).trans ((cell_ne (by omega)).trans ((cell_ne (by omega)).trans b4))))
  ·exact cell_eq ((cell_ne (by omega)).trans ((cell_ne (by omega)).trans ((cell_ne (by omega)).trans ((cell_ne (by omega)).trans ((cell_ne (by omega)).trans b5)))))
 have bl:Below w.heap.size w ((((((wr.setCell ⟨g,L*6,none⟩ (.string t.op)).setCell ⟨g,L*6+1,none⟩ (.string t.name)).setCell ⟨g,L*6+2,none⟩ (.int .i64 (t.kind:Nat))).setCell ⟨g,L*6+3,none⟩ (.int .i64 t.n)).setCell ⟨g,L*6+4,none⟩ (.int .i64 (t.pl:Nat))).setCell ⟨g,L*6+5,none⟩ sl) :=
  (((((h.bl.setCell (p:=⟨g,L*6,none⟩) h.lo _).setCell (p:=⟨g,L*6+1,none⟩) h.lo _).setCell (p:=⟨g,L*6+2,none⟩) h.lo _).setCell (p:=⟨g,L*6+3,none⟩) h.lo _).setCell (p:=⟨g,L*6+4,none⟩) h.lo _).setCell (p:=⟨g,L*6+5,none⟩) h.lo _
 have keepNd:∀ {v:Value} {ts:List Tr},Nd wr (fun h=>w.heap.size≤h∧h≠g) v ts→Nd ((((((wr.setCell ⟨g,L*6,none⟩ (.string t.op)).setCell ⟨g,L*6+1,none⟩ (.string t.name)).setCell ⟨g,L*6+2,none⟩ (.int .i64 (t.kind:Nat))).setCell ⟨g,L*6+3,none⟩ (.int .i64 t.n)).setCell ⟨g,L*6+4,none⟩ (.int .i64 (t.pl:Nat))).setCell ⟨g,L*6+5,none⟩ sl) (fun h=>w.heap.size≤h∧h≠g) v ts:=fun hv=>hv.keep fun b s l=>⟨s,hp b s.2⟩
 refine ⟨⟨R ++ [(t,sl)],by rw [List.map_append,h1];rfl,?_⟩,?_,fun i=>by simpa using h.fz i,bl,h.lo,by simpa using h.up⟩
 ·intro i x hx
  by_cases q:i<R.length
  ·rw [List.getElem?_append_left q] at hx
   obtain ⟨n1,n2⟩:=h2 i x hx
   have lt:i<L:=by omega
   exact ⟨⟨(co _ (by omega)).trans n1.e0,(co _ (by omega)).trans n1.e1,(co _ (by omega)).trans n1.e2,(co _ (by omega)).trans n1.e3,(co _ (by omega)).trans n1.e4,(co _ (by omega)).trans n1.e5⟩,keepNd n2⟩
  ·rw [List.getElem?_append_right (by omega)] at hx
   have e:i - R.length=0:=by
    have:=(List.getElem?_eq_some_iff.1 hx).1
    simp at this
    omega
   rw [e] at hx
   injection hx with hx
   subst hx
   have e2:i=L:=by omega
   subst e2
   exact ⟨nc,keepNd hk⟩
 ·intro i hi
  by_cases q:L*6≤i∧i≤L*6+5
  ·obtain ⟨k,hk⟩:∃ k,i=L*6+k:=⟨i - L*6,by omega⟩
   have:k<6:=by omega
   subst hk
   match k,this with
   | 0,_=>exact ⟨_,nc.e0⟩
   | 1,_=>exact ⟨_,nc.e1⟩
   | 2,_=>exact ⟨_,nc.e2⟩
   | 3,_=>exact ⟨_,nc.e3⟩
   | 4,_=>exact ⟨_,nc.e4⟩
   | 5,_=>exact ⟨_,nc.e5⟩
  ·rw [co _ q]
   exact h.cl i hi
theorem Mk.done {w wr:World} {g n:Nat} {us:List Tr} (h:Mk w wr g n us) (h0:us≠[]):Nd wr (fun g=>w.heap.size≤g) (.slice (some ⟨g,0,none⟩) us.length us.length) us:=by
 obtain ⟨R,h1,h2⟩:=h.ex
 have q:=Nd.row (w:=wr) (S:=fun h=>w.heap.size≤h) g us.length us (fun i=>((R[i]?).map Prod.snd).getD (.slice none 0 0)) h.lo h0 ?_ ?_
 ·exact q
 ·intro i t e
  rw [← h1,List.getElem?_map] at e
  obtain ⟨x,hx,rfl⟩:=Option.map_eq_some_iff.1 e
  rw [hx]
  exact (h2 i x hx).1
 ·intro i t e
  rw [← h1,List.getElem?_map] at e
  obtain ⟨x,hx,rfl⟩:=Option.map_eq_some_iff.1 e
  rw [hx]
  exact (h2 i x hx).2.keep fun b s l=>⟨s.1,rfl⟩
theorem make_nodes (w:World) (n:Nat) (h:n≤100000):∃ o,(Instr.makeSlice 26 (.int .i64 (n:Nat)) (.int .i64 (n:Nat))).run Tryd.prog w=.ok (.slice (some ⟨w.heap.size,0,none⟩) n n) (w.alloc o)∧Mk w (w.alloc o) w.heap.size n []:=by
 obtain ⟨i0,hi,hz0,hz1,hz2⟩:=info_parts nodeInfo
 have hr:=run_make (P:=Tryd.prog) w 26 28 i0 _ Tryd.underlying26 hi hz0 .i64 .i64 n n (by omega) (Int.le_refl _) (by rw [hz2];omega) (by omega)
 rw [hz1,Int.toNat_natCast] at hr
 refine ⟨_,hr,⟨[],rfl,fun i x hx=>by simp at hx⟩,fun i hi=>?_,fun i=>by simp,(Below.refl _ _).alloc (Nat.le_refl _) _,Nat.le_refl _,by simp⟩
 generalize hM:madeCells _ (n*6)=M
 have hs:M.size=n*6:=by rw [← hM];exact size_madeCells _ _
 have:i<M.size:=by omega
 refine ⟨M[i],?_⟩
 have hh:(w.alloc (.cells M 28)).heap[w.heap.size]?=some (.cells M 28):=by rw [← World.alloc_eq];simp
 show (match (w.alloc (.cells M 28)).heap[w.heap.size]? with | some (.cells c _ _)=>c[i]? | _=>none)=some M[i]
 rw [hh]
 exact Array.getElem?_eq_getElem this
theorem Nd.at2 {w:World} {S:Nat→Prop} {v:Value} {ts:List Tr} (h:Nd w S v ts) (h0:ts≠[]):∃ (g c:Nat) (sl:Nat→Value),v=.slice (some ⟨g,0,none⟩) ts.length c∧(∀ i t,ts[i]?=some t→NC w g (i*6) t (sl i))∧(∀ i t,ts[i]?=some t→Nd w S (sl i) t.kids):=by
 cases h with
 | nil=>exact absurd rfl h0
 | row g c ts sl hs h0 hc hk=>exact ⟨g,c,sl,rfl,hc,hk⟩
set_option maxRecDepth 100000 in
set_option maxHeartbeats 4000000 in
theorem each_fold_Expr (f:Tr→Tr) (ts:List Tr) (S:Nat→Prop) (w:World) (v:Value) (hv:Nd w S v ts) (hl:ts.length≤10000) (hT:TabU w) (ih:∀ k,k ∈ ts→∀ (w1:World) (v1:Value),TabU w1→Nv w1 S v1 k→Calls Tryd.prog 10 #[v1] w1 fun e w'=>FdP (f k) w1 e w') :
  Calls Tryd.prog 16 #[v,.func (.func 10) #[] #[]] w fun e w'=>∃ v',e=.returned v'∧Nd w' (fun g=>w.heap.size≤g) v' (ts.map f)∧Below w.heap.size w w':=by
 by_cases h0:ts=[]
 ·subst h0
  have e:v=.slice none 0 0:=by
   cases hv with
   | nil=>rfl
   | row g c ts sl hs h0 hc hk=>exact absurd rfl h0
  subst e
  clear hv ih
  go_enter Tryd.func16,Tryd.ntmps16
  go_wp2_with fail
  go_returns
  exact ⟨_,rfl,.nil,Below.refl _ _⟩
 obtain ⟨g0,c,sl,rfl,hc,hk⟩:=hv.at2 h0
 have LZ:((ts.length:Int)==0)=false:=by
  have:=List.length_pos_iff.2 h0
  exact beqM _ _ (by omega)
 have H0:=hid h0
 obtain ⟨o,hmk,hM⟩:=make_nodes w ts.length (by omega)
 have MK:=hid hM
 have HC:=hid hc
 have HK:=hid hk
 have IH:=hid ih
 have HT:=hid hT
 have HL:=hid hl
 have l1:(ts.length:Int)≤10000:=by omega
 clear hv hc hk hM h0 ih hT hl
 go_enter Tryd.func16,Tryd.ntmps16
 go_upto_region 5 with fail
 clear hmk LZ
 have BW0:=hid (show Below w.heap.size w (w.alloc o) from (Below.refl _ _).alloc (Nat.le_refl _) _)
 generalize World.alloc w o=w1 at *
 obtain ⟨g,hg⟩:∃ g,w.heap.size=g:=⟨_,rfl⟩
 have GE':=hid hg
 have MK1:=hid (show Mk w w1 g ts.length (((ts.take 0)).map f) from by rw [← hg];exact MK.out)
 rw [hg]
 clear MK hg
 go_loopg [16,7,6] (ts.length) (fun gg iv bv xv wr=>∃ i:Nat,i≤ts.length∧gg=ts.length - i∧iv=.int .i64 (i:Nat)∧Hid (Mk w wr g ts.length ((ts.take i).map f)))
 case atStart=>exact ⟨0,Nat.zero_le _,rfl,rfl,MK1⟩
 case round =>
  clear MK1 BW0
  obtain ⟨i,hi,rfl,rfl,MR⟩:=hrel
  by_cases q:i<ts.length
  ·have q':(i:Int)<(ts.length:Int):=by omega
   obtain ⟨t,ht⟩:∃ t,ts[i]?=some t:=⟨_,List.getElem?_eq_getElem q⟩
   have BR:=hid MR.out.bl
   have NC0:=HC.out i t ht
   have NC1:=hid (NC0.keep (BR.out.block _ (World.block_lt_of_cell? _ _ NC0.e0)))
   have ND1:=hid ((HK.out i t ht).keep (w':=wr) (S':=S) fun b s l=>⟨s,BR.out.block b l⟩)
   obtain ⟨k0,k1,k2,k3,k4,k5⟩:=NC1.out
   obtain ⟨sa,sm,sc,hsl⟩:=(HK.out i t ht).slice
   rw [hsl] at k5 ND1
   have BL1:=hid (show Below wr.heap.size wr (wr.alloc (.cells #[.string t.op,.string t.name,.int .i64 (t.kind:Nat),.int .i64 t.n,.int .i64 (t.pl:Nat),.slice sa sm sc] 28)) from (Below.refl _ _).alloc (Nat.le_refl _) _)
   have X1:=hid (B6.new wr 28 (.string t.op) (.string t.name) (.int .i64 (t.kind:Nat)) (.int .i64 t.n) (.int .i64 (t.pl:Nat)) (.slice sa sm sc))
   have M1:=hid (MR.out.next BL1.out)
   have N1:=hid (show Nv (wr.alloc (.cells #[.string t.op,.string t.name,.int .i64 (t.kind:Nat),.int .i64 t.n,.int .i64 (t.pl:Nat),.slice sa sm sc] 28)) S (.agg #[.string t.op,.string t.name,.int .i64 (t.kind:Nat),.int .i64 t.n,.int .i64 (t.pl:Nat),.slice sa sm sc]) t from ⟨_,rfl,ND1.out.keep fun b s l=>⟨s,BL1.out.block b l⟩⟩)
   have CA:=hid (IH.out t (List.mem_of_getElem? ht))
   have TL:=hid (show (ts.take (i+1)).map f=(ts.take i).map f ++ [f t] from by
    obtain ⟨h1,h2⟩:=List.getElem?_eq_some_iff.1 ht
    rw [← h2,← List.take_append_getElem h1,List.map_append]
    rfl)
   have LE:=hid (show ((ts.take i).map f).length=i from by simp;omega)
   clear ht hsl NC0 NC1 ND1 MR BR
   go_upto_region 7 with fail
   clear k0 k1 k2 k3 k4 k5
   generalize World.alloc wr _=w2 at *
   generalize wr.heap.size=q1 at *
   obtain ⟨p0,p1,p2,p3,p4,p5,_⟩:=X1.out
   have CC:=hid (CA.out w2 _ (HT.out.next (M1.out.bl)) N1.out)
   go_wp2_with fail
   with_reducible refine Calls.mono CC.out ?_
   rintro e w3 ⟨v3,rfl,⟨s3,rfl,n3⟩,b3⟩
   obtain ⟨ta,tm,tc,rfl⟩:=n3.slice
   have M2:=hid (M1.out.next b3)
   have N3:=hid (n3.keep (w':=w3) (S':=fun h=>g≤h∧h≠g) fun b s l=>⟨by have h1:w2.heap.size≤b:=s;have h2:=M1.out.up;have h3:=M1.out.lo;omega,rfl⟩)
   obtain ⟨x0,y0⟩:=M2.out.cl (i*6) (by omega)
   obtain ⟨x1,y1⟩:=M2.out.cl (i*6+1) (by omega)
   obtain ⟨x2,y2⟩:=M2.out.cl (i*6+2) (by omega)
   obtain ⟨x3,y3⟩:=M2.out.cl (i*6+3) (by omega)
   obtain ⟨x4,y4⟩:=M2.out.cl (i*6+4) (by omega)
   obtain ⟨x5,y5⟩:=M2.out.cl (i*6+5) (by omega)
   have hf:=M2.out.fz
   have MF:=hid (M2.out.set (by rw [LE.out];omega) (f t) (.slice ta tm tc) (by rw [GE'.out];exact N3.out))
   rw [LE.out,← TL.out] at MF
   clear n3 b3 p0 p1 p2 p3 p4 p5 CC M1 N1 X1 CA
   go_wp2_with fail
   go_roundg (ts.length - (i+1))
   case measure=>omega
   case rel=>exact ⟨i+1,by omega,rfl,by rw [Int.natCast_add];rfl,MF⟩
  ·have q':¬ (i:Int)<(ts.length:Int):=by omega
   have e:i=ts.length:=by omega
   subst e
   have MM:=MR.out
   rw [List.take_length] at MM
   have DN:=hid (MM.done (by simp;exact H0.out))
   rw [List.length_map] at DN
   have BB:=hid MM.bl
   clear MM
   go_wp2_with fail
   go_returns
   exact ⟨_,rfl,DN.out,BB.out⟩
set_option maxRecDepth 100000 in
set_option maxHeartbeats 4000000 in
theorem each_fold_decl (f:Tr→Tr) (ts:List Tr) (S:Nat→Prop) (w:World) (v:Value) (hv:Nd w S v ts) (hl:ts.length≤10000) (hT:TabU w) (ih:∀ k,k ∈ ts→∀ (w1:World) (v1:Value),TabU w1→Nv w1 S v1 k→Calls Tryd.prog 17 #[v1] w1 fun e w'=>FdP (f k) w1 e w') :
  Calls Tryd.prog 16 #[v,.func (.func 17) #[] #[]] w fun e w'=>∃ v',e=.returned v'∧Nd w' (fun g=>w.heap.size≤g) v' (ts.map f)∧Below w.heap.size w w':=by
 by_cases h0:ts=[]
 ·subst h0
  have e:v=.slice none 0 0:=by
   cases hv with
   | nil=>rfl
   | row g c ts sl hs h0 hc hk=>exact absurd rfl h0
  subst e
  clear hv ih
  go_enter Tryd.func16,Tryd.ntmps16
  go_wp2_with fail
  go_returns
  exact ⟨_,rfl,.nil,Below.refl _ _⟩
 obtain ⟨g0,c,sl,rfl,hc,hk⟩:=hv.at2 h0
 have LZ:((ts.length:Int)==0)=false:=by
  have:=List.length_pos_iff.2 h0
  exact beqM _ _ (by omega)
 have H0:=hid h0
 obtain ⟨o,hmk,hM⟩:=make_nodes w ts.length (by omega)
 have MK:=hid hM
 have HC:=hid hc
 have HK:=hid hk
 have IH:=hid ih
 have HT:=hid hT
 have HL:=hid hl
 have l1:(ts.length:Int)≤10000:=by omega
 clear hv hc hk hM h0 ih hT hl
 go_enter Tryd.func16,Tryd.ntmps16
 go_upto_region 5 with fail
 clear hmk LZ
 have BW0:=hid (show Below w.heap.size w (w.alloc o) from (Below.refl _ _).alloc (Nat.le_refl _) _)
 generalize World.alloc w o=w1 at *
 obtain ⟨g,hg⟩:∃ g,w.heap.size=g:=⟨_,rfl⟩
 have GE':=hid hg
 have MK1:=hid (show Mk w w1 g ts.length (((ts.take 0)).map f) from by rw [← hg];exact MK.out)
 rw [hg]
 clear MK hg
 go_loopg [16,7,6] (ts.length) (fun gg iv bv xv wr=>∃ i:Nat,i≤ts.length∧gg=ts.length - i∧iv=.int .i64 (i:Nat)∧Hid (Mk w wr g ts.length ((ts.take i).map f)))
 case atStart=>exact ⟨0,Nat.zero_le _,rfl,rfl,MK1⟩
 case round =>
  clear MK1 BW0
  obtain ⟨i,hi,rfl,rfl,MR⟩:=hrel
  by_cases q:i<ts.length
  ·have q':(i:Int)<(ts.length:Int):=by omega
   obtain ⟨t,ht⟩:∃ t,ts[i]?=some t:=⟨_,List.getElem?_eq_getElem q⟩
   have BR:=hid MR.out.bl
   have NC0:=HC.out i t ht
   have NC1:=hid (NC0.keep (BR.out.block _ (World.block_lt_of_cell? _ _ NC0.e0)))
   have ND1:=hid ((HK.out i t ht).keep (w':=wr) (S':=S) fun b s l=>⟨s,BR.out.block b l⟩)
   obtain ⟨k0,k1,k2,k3,k4,k5⟩:=NC1.out
   obtain ⟨sa,sm,sc,hsl⟩:=(HK.out i t ht).slice
   rw [hsl] at k5 ND1
   have BL1:=hid (show Below wr.heap.size wr (wr.alloc (.cells #[.string t.op,.string t.name,.int .i64 (t.kind:Nat),.int .i64 t.n,.int .i64 (t.pl:Nat),.slice sa sm sc] 28)) from (Below.refl _ _).alloc (Nat.le_refl _) _)
   have X1:=hid (B6.new wr 28 (.string t.op) (.string t.name) (.int .i64 (t.kind:Nat)) (.int .i64 t.n) (.int .i64 (t.pl:Nat)) (.slice sa sm sc))
   have M1:=hid (MR.out.next BL1.out)
   have N1:=hid (show Nv (wr.alloc (.cells #[.string t.op,.string t.name,.int .i64 (t.kind:Nat),.int .i64 t.n,.int .i64 (t.pl:Nat),.slice sa sm sc] 28)) S (.agg #[.string t.op,.string t.name,.int .i64 (t.kind:Nat),.int .i64 t.n,.int .i64 (t.pl:Nat),.slice sa sm sc]) t from ⟨_,rfl,ND1.out.keep fun b s l=>⟨s,BL1.out.block b l⟩⟩)
   have CA:=hid (IH.out t (List.mem_of_getElem? ht))
   have TL:=hid (show (ts.take (i+1)).map f=(ts.take i).map f ++ [f t] from by
    obtain ⟨h1,h2⟩:=List.getElem?_eq_some_iff.1 ht
    rw [← h2,← List.take_append_getElem h1,List.map_append]
    rfl)
   have LE:=hid (show ((ts.take i).map f).length=i from by simp;omega)
   clear ht hsl NC0 NC1 ND1 MR BR
   go_upto_region 7 with fail
   clear k0 k1 k2 k3 k4 k5
   generalize World.alloc wr _=w2 at *
   generalize wr.heap.size=q1 at *
   obtain ⟨p0,p1,p2,p3,p4,p5,_⟩:=X1.out
   have CC:=hid (CA.out w2 _ (HT.out.next (M1.out.bl)) N1.out)
   go_wp2_with fail
   with_reducible refine Calls.mono CC.out ?_
   rintro e w3 ⟨v3,rfl,⟨s3,rfl,n3⟩,b3⟩
   obtain ⟨ta,tm,tc,rfl⟩:=n3.slice
   have M2:=hid (M1.out.next b3)
   have N3:=hid (n3.keep (w':=w3) (S':=fun h=>g≤h∧h≠g) fun b s l=>⟨by have h1:w2.heap.size≤b:=s;have h2:=M1.out.up;have h3:=M1.out.lo;omega,rfl⟩)
   obtain ⟨x0,y0⟩:=M2.out.cl (i*6) (by omega)
   obtain ⟨x1,y1⟩:=M2.out.cl (i*6+1) (by omega)
   obtain ⟨x2,y2⟩:=M2.out.cl (i*6+2) (by omega)
   obtain ⟨x3,y3⟩:=M2.out.cl (i*6+3) (by omega)
   obtain ⟨x4,y4⟩:=M2.out.cl (i*6+4) (by omega)
   obtain ⟨x5,y5⟩:=M2.out.cl (i*6+5) (by omega)
   have hf:=M2.out.fz
   have MF:=hid (M2.out.set (by rw [LE.out];omega) (f t) (.slice ta tm tc) (by rw [GE'.out];exact N3.out))
   rw [LE.out,← TL.out] at MF
   clear n3 b3 p0 p1 p2 p3 p4 p5 CC M1 N1 X1 CA
   go_wp2_with fail
   go_roundg (ts.length - (i+1))
   case measure=>omega
   case rel=>exact ⟨i+1,by omega,rfl,by rw [Int.natCast_add];rfl,MF⟩
  ·have q':¬ (i:Int)<(ts.length:Int):=by omega
   have e:i=ts.length:=by omega
   subst e
   have MM:=MR.out
   rw [List.take_length] at MM
   have DN:=hid (MM.done (by simp;exact H0.out))
   rw [List.length_map] at DN
   have BB:=hid MM.bl
   clear MM
   go_wp2_with fail
   go_returns
   exact ⟨_,rfl,DN.out,BB.out⟩
end Go.Proofs.YtbeahnehjannpaaDoor
