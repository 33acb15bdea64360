/- Parts of the proof. -/
import Derived.Test.YteknljnjcoehoaaGreatDoorPn
namespace Go.Proofs.YteknljnjcoehoaaGreatDoor
open Go.RowKit
set_option linter.unusedVariables false
set_option linter.unusedSimpArgs false
def expF (ks:List Tr):List Tr:=(ks.filter fun k=>eqB k.op ⟨#[114,117,108,101]⟩).flatMap Tr.kids
theorem exp_app (a b:List Tr):expF (a ++ b)=expF a ++ expF b:=by unfold expF;rw [List.filter_append,List.flatMap_append]
theorem exp_ge {ks:List Tr} (hg:∀ k,k ∈ ks→GD k):∀ e,e ∈ expF ks→GE 40 e:=by
 intro e he
 unfold expF at he
 obtain ⟨d,hd,hk⟩:=List.mem_flatMap.1 he
 obtain ⟨h1,h2⟩:=List.mem_filter.1 hd
 obtain ⟨x,hx,g⟩:=(hg d h1).rule h2
 rw [hx] at hk
 simp at hk
 rw [hk]
 exact g
theorem exp_len {ks:List Tr} (hg:∀ k,k ∈ ks→GD k):(expF ks).length≤ks.length:=by
 induction ks with
 | nil=>exact Nat.le_refl _
 | cons d ks ih =>
  have h:=ih (fun k hk=>hg k (by simp [hk]))
  rw [show d :: ks=[d] ++ ks from rfl,exp_app,List.length_append,List.length_append]
  cases y:eqB d.op ⟨#[114,117,108,101]⟩ with
  | true =>
   obtain ⟨x,hx,_⟩:=(hg d (by simp)).rule y
   have:expF [d]=[x]:=by unfold expF;simp [List.filter,y,hx]
   rw [this]
   show 1+_≤1+_
   omega
  | false =>
   have:expF [d]=[]:=by unfold expF;rw [List.filter_cons_of_neg (by rw [y];simp)];rfl
   rw [this]
   show 0+_≤1+_
   omega
structure Ke (w:World) (base:Nat) (S:Nat→Prop) (v:Value) (ts:List Tr):Prop where
 ex:∃ R:List (Tr × Value),R.map Prod.fst=ts∧w.ownsRow base 26 6 v R.length (R.flatMap nC)∧(∀ x ∈ R,Nd w S x.2 x.1.kids)∧(R=[]→v=.slice none 0 0)
theorem Ke.nil (w:World) (base:Nat) (S:Nat→Prop):Ke w base S (.slice none 0 0) []:=⟨[],rfl,World.ownsRow_nil _ _ _ _,fun x h=>by simp at h,fun _=>rfl⟩
theorem Ke.next {w w':World} {base:Nat} {S:Nat→Prop} {v:Value} {ts:List Tr} (h:Ke w base S v ts) (b:Below w.heap.size w w'):Ke w' base S v ts:=by
 obtain ⟨R,e,o,n,z⟩:=h.ex
 exact ⟨R,e,own_keep o fun g _ l=>b.block g l,fun x q=>(n x q).gwY b,z⟩
theorem Ke.nd {w:World} {base:Nat} {S:Nat→Prop} {v:Value} {ts:List Tr} (h:Ke w base S v ts):Nd w (fun g=>S g∨base≤g) v ts:=by
 obtain ⟨R,rfl,o,n,z⟩:=h.ex
 rcases o.2 with ⟨rfl,h1⟩ | ⟨g,cap,cur,rfl,hb,hg,hn,hm,hs,ht⟩
 ·have e:R=[]:=List.eq_nil_of_length_eq_zero h1
  subst e
  exact .nil
 ·have rne:R≠[]:=fun e=>by have:=z e;cases this
  have c:∀ (i:Nat) (x:Tr × Value),R[i]?=some x→NC w g (i*6) x.1 x.2:=fun i x hx=>by
   have hi:=lt_of_some hx
   have q:∀ j u,j<6→(nC x)[j]?=some u→w.cell? ⟨g,i*6+j,none⟩=some u:=fun j u hj hu=>by
    rw [← flat_at R i x j hx hj,← ht,List.getElem?_take_of_lt (by omega),Array.getElem?_toList] at hu
    simp [World.cell?,hg,hu]
   exact ⟨q 0 _ (by omega) rfl,q 1 _ (by omega) rfl,q 2 _ (by omega) rfl,q 3 _ (by omega) rfl,q 4 _ (by omega) rfl,q 5 _ (by omega) rfl⟩
  have e:R.length=(R.map Prod.fst).length:=(List.length_map _).symm
  rw [e]
  refine .row g cap (R.map Prod.fst) (fun i=>((R[i]?).getD (Tr.zero,.slice none 0 0)).2) (Or.inr hb) (by simpa using rne) (fun i t ht2=>?_) (fun i t ht2=>?_)
  ·rw [List.getElem?_map] at ht2
   cases hx:R[i]? with
   | none=>rw [hx] at ht2;cases ht2
   | some x=>rw [hx] at ht2;injection ht2 with ht2;subst ht2;exact c i x hx
  ·rw [List.getElem?_map] at ht2
   cases hx:R[i]? with
   | none=>rw [hx] at ht2;cases ht2
   | some x=>rw [hx] at ht2;injection ht2 with ht2;subst ht2;exact (n x (List.mem_of_getElem? hx)).keep fun g s _=>⟨Or.inl s,rfl⟩
theorem wpList_addE {w : World} {ops : Array Oper} {rest : List Oper} {o : Oper} {a : Act} {Q : Exit → Act → World → Prop} (hgd : o.guard = none) (sl x : Operand)
    (ho : o.op = .call { callee := .builtin .append, args := #[sl, x], argTypes := #[24, 24] }) (base : Nat) (S : Nat → Prop) (hS : ∀ g, S g → g < base) (v : Value) (ts : List Tr) (t : Tr) (vk : Value) (hs : a.eval sl = v) (hown : Ke w base S v ts)
    (b : Nat) (hx : a.eval x = .slice (some ⟨b, 0, none⟩) 1 1) (hc : NC w b 0 t vk) (hk : Nd w S vk t.kids) (hl : ts.length ≤ 100000) (hbase : base ≤ w.heap.size)
    (h : ∀ v' w', Ke w' base S v' (ts ++ [t]) → Below base w w' → wpList Tryz.prog ops Q rest (a.put o.dst v') w') : wpList Tryz.prog ops Q (o :: rest) a w := by
  obtain ⟨i0, hi, hz0, hz1, hz2⟩ := info_parts nodeInfo
  obtain ⟨R, e, ow, n, z⟩ := hown.ex
  have rl : R.length = ts.length := by rw [← e]; simp
  refine wpList_plain hgd fun K hK => ?_
  obtain ⟨v', w', hr, h2, h3, h4⟩ := run_app (P := Tryz.prog) w base 24 o.type 26 i0 _ 6 80 Tryz.underlying24 hi hz0 hz1 hz2 rfl (by decide) v R.length (R.flatMap nC) ow ⟨b, 0, none⟩ 1 (nC (t, vk)) rfl (fun j u hu => by
      have : w.cell? ⟨b, j, none⟩ = some u := by
        match j, hu with
        | 0, hu => simp [nC] at hu; rw [← hu]; exact hc.e0
        | 1, hu => simp [nC] at hu; rw [← hu]; exact hc.e1
        | 2, hu => simp [nC] at hu; rw [← hu]; exact hc.e2
        | 3, hu => simp [nC] at hu; rw [← hu]; exact hc.e3
        | 4, hu => simp [nC] at hu; rw [← hu]; exact hc.e4
        | 5, hu => simp [nC] at hu; rw [← hu]; exact hc.e5
        | j + 6, hu => simp [nC] at hu
      cases j with
      | zero => simpa [Addr.add] using this
      | succ j => simpa [Addr.add] using this) (fun u hu => by
      simp [nC] at hu
      rcases hu with rfl | rfl | rfl | rfl | rfl | rfl <;> first | rfl | exact nd_one hk) (by unfold maxLen; omega) (by omega) hbase
  unfold Oper.wp execOp
  simp only [ho, resolve, invoke, builtin, Sem.run_bind, Sem.run_pure, Result.andThen_ok, List.map_toArray, List.map_cons, List.map_nil, hs, hx, hr]
  have ka : ∀ g, S g → g < w.heap.size → S g ∧ w'.heap[g]? = w.heap[g]? := fun g s l => ⟨s, h3.block g l (fun e => by have := (ow.lt g e.symm).1; have := hS g s; omega)⟩
  refine hK _ _ (h v' w' ⟨R ++ [(t, vk)], by rw [List.map_append, e]; rfl, ?_, fun x hx => ?_, fun e => by simp at e⟩ (grB (Below.refl _ _) h3 hbase (fun i e => (ow.lt i e).1)))
  · rw [List.length_append, List.flatMap_append]
    simpa using h2
  · rcases List.mem_append.1 hx with q | q
    · exact (n x q).keep ka
    · simp at q
      subst q
      exact hk.keep ka
def ExP (ks:List Tr) (S:Nat→Prop) (w:World) (e:Ending) (w':World):Prop:=∃ v,e=.returned v∧Nd w' (fun g=>(S g∧g<w.heap.size)∨w.heap.size≤g) v (expF ks)∧Below w.heap.size w w'
structure ExI (w wr:World) (S:Nat→Prop) (sv:Value) (ks:List Tr) (i:Nat) (rv:Value):Prop where
 nd:Nd wr (fun g=>S g∧g<w.heap.size) sv ks
 bl:Below w.heap.size w wr
 ke:Ke wr w.heap.size (fun g=>S g∧g<w.heap.size) rv (expF (ks.take i))
set_option maxRecDepth 100000 in
set_option maxHeartbeats 8000000 in
theorem exps_any (t:Tr) (hg:∀ k,k ∈ t.kids→GD k) (hl:t.kids.length≤10000) (S:Nat→Prop) (w:World) (v:Value) (hd:Nd w S v t.kids) :
  Calls Tryz.prog 49 #[.agg #[.string t.op,.string t.name,.int .i64 (t.kind:Nat),.int .i64 t.n,.int .i64 (t.pl:Nat),v]] w fun e w'=>ExP t.kids S w e w':=by
 obtain ⟨sa,sc,rfl⟩:=hd.lenY
 generalize t.kids=ks at *
 have B1:=hid (show Below w.heap.size w (w.alloc (.cells #[.string t.op,.string t.name,.int .i64 (t.kind:Nat),.int .i64 t.n,.int .i64 (t.pl:Nat),.slice sa ks.length sc] 26)) from (Below.refl _ _).alloc (Nat.le_refl _) _)
 have X1:=hid (B6.new w 26 (.string t.op) (.string t.name) (.int .i64 (t.kind:Nat)) (.int .i64 t.n) (.int .i64 (t.pl:Nat)) (.slice sa ks.length sc))
 have N1:=hid (hd.keep (S':=fun g=>S g∧g<w.heap.size) fun g s l=>⟨⟨s,l⟩,B1.out.block g l⟩)
 have KL:(ks.length:Int)≤10000:=by omega
 have HG:=hid hg
 have HL:=hid hl
 clear hd hl hg
 go_enter Tryz.func49,Tryz.ntmps49
 go_upto_region 2 with fail
 generalize World.alloc w _=w1 at *
 have x5:=X1.out.c5
 go_upto_region 3 with fail
 clear x5
 go_loopg [9,3,5] (ks.length) (fun g iv rv bv wr=>∃ i:Nat,i≤ks.length∧g=ks.length - i∧iv=.int .i64 (i:Nat)∧Hid (ExI w wr S (.slice sa ks.length sc) ks i rv))
 case atStart=>exact ⟨0,Nat.zero_le _,rfl,rfl,N1.out,B1.out,Ke.nil _ _ _⟩
 case round =>
  obtain ⟨rv,erv⟩:∃ x,x=u3:=⟨_,rfl⟩
  subst erv
  obtain ⟨i,hi,rfl,rfl,II⟩:=hrel
  by_cases qi:i<ks.length
  ·have qi':(i:Int)<(ks.length:Int):=by omega
   obtain ⟨k,hk⟩:∃ k,ks[i]?=some k:=⟨_,List.getElem?_eq_getElem qi⟩
   obtain ⟨g,c,s3,ea,nc,nk⟩:=II.out.nd.atY i k hk
   obtain ⟨ka,kc,rfl⟩:=nk.lenY
   injection ea with ea _ ec
   subst ea ec
   have TK:=hid (show expF (ks.take (i+1))=expF (ks.take i) ++ expF [k] from by
    obtain ⟨h1,h2⟩:=List.getElem?_eq_some_iff.1 hk
    rw [← h2,show ks.take (i+1)=ks.take i ++ [ks[i]] from (List.take_append_getElem h1).symm,exp_app])
   have GK:=hid (HG.out k (List.mem_of_getElem? hk))
   obtain ⟨n0,n1,n2,n3,n4,n5⟩:=nc
   have B3:=hid (show Below wr.heap.size wr (wr.alloc (.cells #[.string k.op,.string k.name,.int .i64 (k.kind:Nat),.int .i64 k.n,.int .i64 (k.pl:Nat),.slice ka k.kids.length kc] 26)) from (Below.refl _ _).alloc (Nat.le_refl _) _)
   have X3:=hid (B6.new wr 26 (.string k.op) (.string k.name) (.int .i64 (k.kind:Nat)) (.int .i64 k.n) (.int .i64 (k.pl:Nat)) (.slice ka k.kids.length kc))
   have K3:=hid (nk.gwY B3.out)
   have N3:=hid (II.out.nd.gwY B3.out)
   have E3:=hid (II.out.ke.next B3.out)
   have A3:=hid (nextB II.out.bl B3.out)
   clear nk hk II
   go_upto_region 5 with fail
   clear n0 n1 n2 n3 n4 n5
   generalize World.alloc wr _=w3 at *
   generalize wr.heap.size=xb at *
   have x0:=X3.out.c0
   cases y1:eqB k.op ⟨#[114,117,108,101]⟩ with
   | false =>
    have z1:(k.op.toList==[114,117,108,101])=false:=(eqL _ _).trans y1
    have EE:=hid (show expF (ks.take (i+1))=expF (ks.take i) from by rw [TK.out,show expF [k]=[] from by unfold expF;rw [List.filter_cons_of_neg (by rw [y1];simp)];rfl,List.append_nil])
    clear y1
    go_wp2_with fail
    go_roundg (ks.length - (i+1))
    case measure=>omega
    case rel=>exact ⟨i+1,by omega,rfl,by rw [Int.natCast_add];rfl,N3.out,A3.out,by rw [EE.out];exact E3.out⟩
   | true =>
    have z1:(k.op.toList==[114,117,108,101])=true:=(eqL _ _).trans y1
    obtain ⟨x,hx,hge⟩:=GK.out.rule y1
    have EE:=hid (show expF (ks.take (i+1))=expF (ks.take i) ++ [x] from by rw [TK.out,show expF [k]=[x] from by unfold expF;simp [List.filter,y1,hx]])
    have EL:=hid (show (expF (ks.take i)).length≤100000 from by
     have h:=exp_len (ks:=ks.take i) (fun k hk=>HG.out k (List.mem_of_mem_take hk))
     rw [List.length_take] at h
     have:=HL.out
     omega)
    have KX:=hid (show k.kids[0]?=some x from by rw [hx];rfl)
    obtain ⟨g2,c2,s4,ea,nc2,nk2⟩:=K3.out.atY 0 x KX.out
    obtain ⟨xa,xm,xc,rfl⟩:=nk2.slice
    injection ea with ea _ ec
    subst ea ec
    have qk:k.kids≠[]:=by rw [hx];simp
    have qk0:(0:Int)<(k.kids.length:Int):=by rw [hx];simp
    have NK2:=hid nk2
    have NC2:=hid nc2
    have x5:=X3.out.c5
    have BA:=hid (show Below w3.heap.size w3 (w3.alloc (.cells #[.string x.op,.string x.name,.int .i64 (x.kind:Nat),.int .i64 x.n,.int .i64 (x.pl:Nat),.slice xa xm xc] 26)) from (Below.refl _ _).alloc (Nat.le_refl _) _)
    have CA:=hid (show NC (w3.alloc (.cells #[.string x.op,.string x.name,.int .i64 (x.kind:Nat),.int .i64 x.n,.int .i64 (x.pl:Nat),.slice xa xm xc] 26)) w3.heap.size 0 x (.slice xa xm xc) from ⟨by simp,by simp,by simp,by simp,by simp,by simp⟩)
    have E4:=hid (E3.out.next BA.out)
    have K4:=hid (NK2.out.gwY BA.out)
    have M4:=hid (show w.heap.size≤(w3.alloc (.cells #[.string x.op,.string x.name,.int .i64 (x.kind:Nat),.int .i64 x.n,.int .i64 (x.pl:Nat),.slice xa xm xc] 26)).heap.size from Nat.le_trans A3.out.size BA.out.size)
    obtain ⟨m0,m1,m2,m3,m4,m5⟩:=nc2
    simp only [Nat.zero_mul,Nat.zero_add] at m0 m1 m2 m3 m4 m5
    clear nk2 hx hge y1
    go_wp2_with (at_builtin;refine wpList_addE rfl (.tmp 16) (.tmp 21) rfl w.heap.size (fun g=>S g∧g<w.heap.size) (fun g s=>s.2) _ _ x (.slice xa xm xc) rfl E4.out w3.heap.size rfl CA.out K4.out EL.out M4.out ?_;intro v2 w9 o2 g2;have O9:=hid o2;have G9:=hid g2;clear o2 g2)
    go_roundg (ks.length - (i+1))
    case measure=>omega
    case rel=>exact ⟨i+1,by omega,rfl,by rw [Int.natCast_add];rfl,(N3.out.gwY BA.out).keep (fun g s l=>⟨s,G9.out.block g s.2⟩),(nextB A3.out BA.out).trans G9.out,by rw [EE.out];exact O9.out⟩
  ·have qi':¬ (i:Int)<(ks.length:Int):=by omega
   have TK:=hid (show ks.take i=ks from List.take_of_length_le (by omega))
   have EN:=hid (show Nd wr (fun g=>(S g∧g<w.heap.size)∨w.heap.size≤g) rv (expF ks) from by have:=II.out.ke.nd;rw [TK.out] at this;exact this)
   go_wp2_with fail
   go_returns
   exact ⟨_,rfl,EN.out,II.out.bl⟩
def sumS (l:List Tr):Nat:=(l.map fun e=>2+stpT e).sum
def maxD (l:List Tr):Nat:=l.foldl (fun m e=>max m (depT e)) 0
def stepR (ks:List Tr):Nat × Int:=match sortR ks with | none=>(0,8) | some _=>if 1099511627776<sumS (expF ks) then (0,2) else (sumS (expF ks),0)
def deepR (ks:List Tr):Nat × Int:=if (stepR ks).2=0 then (maxD (expF ks),0) else (0,(stepR ks).2)
theorem sumS_le:∀ l:List Tr,sumS l≤l.length*1099511627779
 | []=>by simp [sumS]
 | e :: l=>by
  have:=sumS_le l
  have:=stp_le e
  have h:sumS (e :: l)=2+stpT e+sumS l:=by simp [sumS]
  rw [h,List.length_cons]
  omega
theorem sumS_take {l:List Tr} {i:Nat} {e:Tr} (h:l[i]?=some e):sumS (l.take (i+1))=sumS (l.take i)+(2+stpT e):=by
 obtain ⟨h1,h2⟩:=List.getElem?_eq_some_iff.1 h
 unfold sumS
 rw [← h2,show l.take (i+1)=l.take i ++ [l[i]] from (List.take_append_getElem h1).symm,List.map_append,List.sum_append]
 simp
theorem maxD_take {l:List Tr} {i:Nat} {e:Tr} (h:l[i]?=some e):maxD (l.take (i+1))=max (maxD (l.take i)) (depT e):=by
 obtain ⟨h1,h2⟩:=List.getElem?_eq_some_iff.1 h
 unfold maxD
 rw [← h2,show l.take (i+1)=l.take i ++ [l[i]] from (List.take_append_getElem h1).symm,List.foldl_append]
 rfl
theorem exp_nod {ks:List Tr}:∀ e,e ∈ expF ks→nodT e≤nodL ks:=by
 intro e he
 unfold expF at he
 obtain ⟨d,hd,hk⟩:=List.mem_flatMap.1 he
 have h1:=(List.mem_filter.1 hd).1
 have h2:=nod_kid hk
 clear he hd
 have:nodT d≤nodL ks:=by
  clear hk h2
  induction ks with
  | nil=>simp at h1
  | cons x l ih =>
   rw [nodL]
   rcases List.mem_cons.1 h1 with rfl | h1
   ·omega
   ·have:=ih h1;omega
 omega
structure StL (w4 wr:World) (S:Nat→Prop) (v:Value) (es:List Tr):Prop where
 nd:Nd wr S v es
 bl:Below w4.heap.size w4 wr
set_option maxRecDepth 100000 in
set_option maxHeartbeats 8000000 in
theorem Steps_any (t:Tr) (ho:t.op=sStatute) (hg:∀ k,k ∈ t.kids→GD k) (hl:t.kids.length≤10000) (hn:nodT t≤90000) (S:Nat→Prop) (w:World) (v:Value) (hd:Nd w S v t.kids) (hT:TabM w) :
  Calls Tryz.prog 18 #[.agg #[.string t.op,.string t.name,.int .i64 (t.kind:Nat),.int .i64 t.n,.int .i64 (t.pl:Nat),v]] w fun e w'=>e=.returned (.tuple #[.int .i64 ((stepR t.kids).1:Nat),.int .i64 (stepR t.kids).2])∧Below w.heap.size w w':=by
 obtain ⟨sa,sm,sc,rfl⟩:=hd.slice
 have B1:=hid (show Below w.heap.size w (w.alloc (.cells #[.string t.op,.string t.name,.int .i64 (t.kind:Nat),.int .i64 t.n,.int .i64 (t.pl:Nat),.slice sa sm sc] 26)) from (Below.refl _ _).alloc (Nat.le_refl _) _)
 have X1:=hid (B6.new w 26 (.string t.op) (.string t.name) (.int .i64 (t.kind:Nat)) (.int .i64 t.n) (.int .i64 (t.pl:Nat)) (.slice sa sm sc))
 have N1:=hid (hd.gwY B1.out)
 have KS:=hid (Sort_any t ho hg hl hn S _ _ N1.out (hT.next B1.out))
 have KE:=hid (fun W (b:Below (w.alloc (.cells #[.string t.op,.string t.name,.int .i64 (t.kind:Nat),.int .i64 t.n,.int .i64 (t.pl:Nat),.slice sa sm sc] 26)).heap.size (w.alloc (.cells #[.string t.op,.string t.name,.int .i64 (t.kind:Nat),.int .i64 t.n,.int .i64 (t.pl:Nat),.slice sa sm sc] 26)) W)=>exps_any t hg hl S W _ (N1.out.gwY b))
 unfold SoP at KS
 unfold ExP at KE
 have SR:=hid (show stepR t.kids=match sortR t.kids with | none=>(0,8) | some _=>if 1099511627776<sumS (expF t.kids) then (0,2) else (sumS (expF t.kids),0) from rfl)
 have GE':=hid (exp_ge hg)
 have EL:=hid (show (expF t.kids).length≤10000 from Nat.le_trans (exp_len hg) hl)
 obtain ⟨R,hR⟩:∃ R,stepR t.kids=R:=⟨_,rfl⟩
 rw [hR] at SR ⊢
 obtain ⟨r1,r2⟩:=R
 generalize sortR t.kids=so at *
 generalize expF t.kids=es at *
 clear hd hg hl hn hT ho hR N1
 dsimp only
 go_enter Tryz.func18,Tryz.ntmps18
 go_upto_region 1 with fail
 generalize World.alloc w _=w1 at *
 obtain ⟨x0,x1,x2,x3,x4,x5,xz⟩:=X1.out
 cases so with
 | none =>
  have F1:=hid (show r1=0∧r2=8 from by injection SR.out with h1 h2;exact ⟨h1,h2⟩)
  go_wp2_with (go_at_call 17;(with_reducible refine Calls.mono KS.out ?_);rintro e w3 ⟨v3,rfl,o3,b3⟩;have B3:=hid b3;obtain ⟨va,vc,ev⟩:=own_slice o3.row;subst ev;clear o3 b3;(try simp only [errS]))
  go_returns
  exact ⟨by rw [F1.out.1,F1.out.2];rfl,nextB B1.out B3.out⟩
 | some lo =>
  have S2:=hid (show (r1,r2)=if 1099511627776<sumS es then (0,2) else (sumS es,0) from SR.out)
  go_upto_region 5 with (go_at_call 17;(with_reducible refine Calls.mono KS.out ?_);rintro e w3 ⟨v3,rfl,o3,b3⟩;have B3:=hid b3;obtain ⟨va,vc,ev⟩:=own_slice o3.row;subst ev;clear o3 b3;(try simp only [errS]))
  clear x0 x1 x2 x3 x4 x5 xz
  have KE3:=hid (KE.out w3 B3.out)
  obtain ⟨x0,x1,x2,x3,x4,x5,xz⟩:=X1.out.next B3.out
  go_upto_region 6 with (go_at_call 49;(with_reducible refine Calls.mono KE3.out ?_);rintro e w4 ⟨v4,rfl,n4,b4⟩;have N4:=hid n4;have B4:=hid b4;clear b4;obtain ⟨ea,ec,ev4⟩:=n4.lenY;subst ev4;clear n4)
  clear x0 x1 x2 x3 x4 x5 xz KE KE3 KS SR X1
  have KL:(es.length:Int)≤10000:=by have:=EL.out;omega
  obtain ⟨S',hS'⟩:∃ S':Nat→Prop,(fun g=>(S g∧g<w3.heap.size)∨w3.heap.size≤g)=S':=⟨_,rfl⟩
  rw [hS'] at N4
  have BX:=hid (nextB B1.out (nextB B3.out B4.out))
  clear hS' B1 B3 B4
  go_loopg [20,6,8] (es.length) (fun g iv sv jv wr=>∃ i:Nat,i≤es.length∧g=es.length - i∧iv=.int .i64 (i:Nat)∧sv=.int .i64 (sumS (es.take i):Nat)∧Hid (StL w4 wr S' (.slice ea es.length ec) es))
  case atStart=>exact ⟨0,Nat.zero_le _,rfl,rfl,rfl,N4.out,Below.refl _ _⟩
  case round =>
   obtain ⟨i,hi,rfl,rfl,rfl,II⟩:=hrel
   by_cases qi:i<es.length
   ·have qi':(i:Int)<(es.length:Int):=by omega
    obtain ⟨k,hk⟩:∃ k,es[i]?=some k:=⟨_,List.getElem?_eq_getElem qi⟩
    obtain ⟨g,c,s3,ea',nc,nk⟩:=II.out.nd.atY i k hk
    obtain ⟨ka,km,kc,rfl⟩:=nk.slice
    injection ea' with ea' _ ec'
    subst ea' ec'
    have KC:=hid (steps_good S' (GE'.out k (List.mem_of_getElem? hk)))
    have SE:=hid (sumS_take hk)
    have sb:=Nat.le_trans (sumS_le (es.take i)) (Nat.mul_le_mul_right _ (Nat.le_trans (List.length_take_le i es) (show i≤10000 from by have:=EL.out;omega)))
    have xb9:=stp_le k
    obtain ⟨n0,n1,n2,n3,n4,n5⟩:=nc
    have B5:=hid (show Below wr.heap.size wr (wr.alloc (.cells #[.string k.op,.string k.name,.int .i64 (k.kind:Nat),.int .i64 k.n,.int .i64 (k.pl:Nat),.slice ka km kc] 26)) from (Below.refl _ _).alloc (Nat.le_refl _) _)
    have X5:=hid (B6.new wr 26 (.string k.op) (.string k.name) (.int .i64 (k.kind:Nat)) (.int .i64 k.n) (.int .i64 (k.pl:Nat)) (.slice ka km kc))
    have K5:=hid (nk.gwY B5.out)
    have N5:=hid (II.out.nd.gwY B5.out)
    have A5:=hid (nextB II.out.bl B5.out)
    clear nk hk II
    go_upto_region 8 with fail
    clear n0 n1 n2 n3 n4 n5
    generalize World.alloc wr _=w5 at *
    generalize wr.heap.size=xb at *
    have KD:=hid (KC.out w5 _ K5.out)
    generalize sumS (es.take i)=sm at *
    generalize stpT k=x at *
    have w1':IntKind.i64.wrap (2+(x:Int))=2+(x:Int):=by go_arith
    have w2':IntKind.i64.wrap ((sm:Int)+(2+(x:Int)))=(sm:Int)+(2+(x:Int)):=by go_arith
    obtain ⟨x0,x1,x2,x3,x4,x5,xz⟩:=X5.out
    go_wp2_with (go_at_call 50;(with_reducible refine Calls.mono KD.out ?_);rintro e w6 ⟨rfl,b6⟩;have B6x:=hid b6;clear b6)
    go_roundg (es.length - (i+1))
    case measure=>omega
    case rel=>exact ⟨i+1,by omega,rfl,by rw [Int.natCast_add];rfl,by rw [SE.out];congr 1,N5.out.gwY B6x.out,nextB A5.out B6x.out⟩
   ·have qi':¬ (i:Int)<(es.length:Int):=by omega
    have TK:=hid (show es.take i=es from List.take_of_length_le (by omega))
    rw [TK.out]
    generalize sumS es=sm at *
    by_cases qm:1099511627776<sm
    ·have qm':(1099511627776:Int)<(sm:Int):=by omega
     have F1:=hid (show r1=0∧r2=2 from by have:=S2.out;rw [if_pos qm] at this;injection this with h1 h2;exact ⟨h1,h2⟩)
     clear qm
     go_wp2_with fail
     go_returns
     exact ⟨by rw [F1.out.1,F1.out.2];rfl,nextB BX.out II.out.bl⟩
    ·have qm':¬ (1099511627776:Int)<(sm:Int):=by omega
     have F1:=hid (show r1=sm∧r2=0 from by have:=S2.out;rw [if_neg qm] at this;injection this with h1 h2;exact ⟨h1,h2⟩)
     clear qm
     go_wp2_with fail
     go_returns
     exact ⟨by rw [F1.out.1,F1.out.2];rfl,nextB BX.out II.out.bl⟩
set_option maxRecDepth 100000 in
set_option maxHeartbeats 8000000 in
theorem Deep_any (t:Tr) (ho:t.op=sStatute) (hg:∀ k,k ∈ t.kids→GD k) (hl:t.kids.length≤10000) (hn:nodT t≤90000) (S:Nat→Prop) (w:World) (v:Value) (hd:Nd w S v t.kids) (hT:TabM w) :
  Calls Tryz.prog 19 #[.agg #[.string t.op,.string t.name,.int .i64 (t.kind:Nat),.int .i64 t.n,.int .i64 (t.pl:Nat),v]] w fun e w'=>e=.returned (.tuple #[.int .i64 ((deepR t.kids).1:Nat),.int .i64 (deepR t.kids).2])∧Below w.heap.size w w':=by
 obtain ⟨sa,sm,sc,rfl⟩:=hd.slice
 have B1:=hid (show Below w.heap.size w (w.alloc (.cells #[.string t.op,.string t.name,.int .i64 (t.kind:Nat),.int .i64 t.n,.int .i64 (t.pl:Nat),.slice sa sm sc] 26)) from (Below.refl _ _).alloc (Nat.le_refl _) _)
 have X1:=hid (B6.new w 26 (.string t.op) (.string t.name) (.int .i64 (t.kind:Nat)) (.int .i64 t.n) (.int .i64 (t.pl:Nat)) (.slice sa sm sc))
 have N1:=hid (hd.gwY B1.out)
 have KS:=hid (Steps_any t ho hg hl hn S _ _ N1.out (hT.next B1.out))
 have KE:=hid (fun W (b:Below (w.alloc (.cells #[.string t.op,.string t.name,.int .i64 (t.kind:Nat),.int .i64 t.n,.int .i64 (t.pl:Nat),.slice sa sm sc] 26)).heap.size (w.alloc (.cells #[.string t.op,.string t.name,.int .i64 (t.kind:Nat),.int .i64 t.n,.int .i64 (t.pl:Nat),.slice sa sm sc] 26)) W)=>exps_any t hg hl S W _ (N1.out.gwY b))
 unfold ExP at KE
 have SR:=hid (show deepR t.kids=if (stepR t.kids).2=0 then (maxD (expF t.kids),0) else (0,(stepR t.kids).2) from rfl)
 have NE:=hid (show ∀ e,e ∈ expF t.kids→nodT e≤90000 from fun e he=>by have:=exp_nod e he;have:nodT t=1+nodL t.kids:=by { obtain ⟨o,n,k,m,a,kids⟩:=t;rfl };omega)
 have GE':=hid (exp_ge hg)
 have EL:=hid (show (expF t.kids).length≤10000 from Nat.le_trans (exp_len hg) hl)
 obtain ⟨R,hR⟩:∃ R,deepR t.kids=R:=⟨_,rfl⟩
 rw [hR] at SR ⊢
 obtain ⟨r1,r2⟩:=R
 generalize stepR t.kids=so at *
 obtain ⟨s1,s2⟩:=so
 dsimp only at SR KS
 generalize expF t.kids=es at *
 clear hd hg hl hn hT ho hR N1
 dsimp only
 go_enter Tryz.func19,Tryz.ntmps19
 go_upto_region 1 with fail
 generalize World.alloc w _=w1 at *
 obtain ⟨x0,x1,x2,x3,x4,x5,xz⟩:=X1.out
 by_cases qs:s2=0
 case neg =>
  have F1:=hid (show r1=0∧r2=s2 from by have:=SR.out;rw [if_neg qs] at this;injection this with h1 h2;exact ⟨h1,h2⟩)
  have qs':(s2==0)=false:=beqI _ _ qs
  clear qs
  go_wp2_with (go_at_call 18;(with_reducible refine Calls.mono KS.out ?_);rintro e w3 ⟨rfl,b3⟩;have B3:=hid b3;clear b3)
  go_returns
  exact ⟨by rw [F1.out.1,F1.out.2];rfl,nextB B1.out B3.out⟩
 case pos =>
  have S2:=hid (show r1=maxD es∧r2=0 from by have:=SR.out;rw [if_pos qs] at this;injection this with h1 h2;exact ⟨h1,h2⟩)
  subst qs
  go_upto_region 5 with (go_at_call 18;(with_reducible refine Calls.mono KS.out ?_);rintro e w3 ⟨rfl,b3⟩;have B3:=hid b3;clear b3)
  clear x0 x1 x2 x3 x4 x5 xz
  have KE3:=hid (KE.out w3 B3.out)
  obtain ⟨x0,x1,x2,x3,x4,x5,xz⟩:=X1.out.next B3.out
  go_upto_region 6 with (go_at_call 49;(with_reducible refine Calls.mono KE3.out ?_);rintro e w4 ⟨v4,rfl,n4,b4⟩;have N4:=hid n4;have B4:=hid b4;clear b4;obtain ⟨ea,ec,ev4⟩:=n4.lenY;subst ev4;clear n4)
  clear x0 x1 x2 x3 x4 x5 xz KE KE3 KS SR X1
  have KL:(es.length:Int)≤10000:=by have:=EL.out;omega
  obtain ⟨S',hS'⟩:∃ S':Nat→Prop,(fun g=>(S g∧g<w3.heap.size)∨w3.heap.size≤g)=S':=⟨_,rfl⟩
  rw [hS'] at N4
  have BX:=hid (nextB B1.out (nextB B3.out B4.out))
  clear hS' B1 B3 B4
  go_loopg [20,6,8] (es.length) (fun g iv sv jv wr=>∃ i:Nat,i≤es.length∧g=es.length - i∧iv=.int .i64 (i:Nat)∧sv=.int .i64 (maxD (es.take i):Nat)∧Hid (StL w4 wr S' (.slice ea es.length ec) es))
  case atStart=>exact ⟨0,Nat.zero_le _,rfl,rfl,rfl,N4.out,Below.refl _ _⟩
  case round =>
   obtain ⟨i,hi,rfl,rfl,rfl,II⟩:=hrel
   by_cases qi:i<es.length
   ·have qi':(i:Int)<(es.length:Int):=by omega
    obtain ⟨k,hk⟩:∃ k,es[i]?=some k:=⟨_,List.getElem?_eq_getElem qi⟩
    obtain ⟨g,c,s3,ea',nc,nk⟩:=II.out.nd.atY i k hk
    obtain ⟨ka,km,kc,rfl⟩:=nk.slice
    injection ea' with ea' _ ec'
    subst ea' ec'
    have KC:=hid ((deep_good S' (GE'.out k (List.mem_of_getElem? hk))).2 (NE.out k (List.mem_of_getElem? hk)))
    have SE:=hid (maxD_take hk)
    obtain ⟨n0,n1,n2,n3,n4,n5⟩:=nc
    have B5:=hid (show Below wr.heap.size wr (wr.alloc (.cells #[.string k.op,.string k.name,.int .i64 (k.kind:Nat),.int .i64 k.n,.int .i64 (k.pl:Nat),.slice ka km kc] 26)) from (Below.refl _ _).alloc (Nat.le_refl _) _)
    have X5:=hid (B6.new wr 26 (.string k.op) (.string k.name) (.int .i64 (k.kind:Nat)) (.int .i64 k.n) (.int .i64 (k.pl:Nat)) (.slice ka km kc))
    have K5:=hid (nk.gwY B5.out)
    have N5:=hid (II.out.nd.gwY B5.out)
    have A5:=hid (nextB II.out.bl B5.out)
    clear nk hk II
    go_upto_region 8 with fail
    clear n0 n1 n2 n3 n4 n5
    generalize World.alloc wr _=w5 at *
    generalize wr.heap.size=xb at *
    have KD:=hid (KC.out.2 w5 _ K5.out)
    generalize maxD (es.take i)=sm at *
    generalize depT k=x at *
    obtain ⟨x0,x1,x2,x3,x4,x5,xz⟩:=X5.out
    go_wp2_with (go_at_call 51;(with_reducible refine Calls.mono KD.out ?_);rintro e w6 ⟨rfl,b6⟩;have B6x:=hid b6;clear b6)
    go_roundg (es.length - (i+1))
    case measure=>omega
    case rel=>exact ⟨i+1,by omega,rfl,by rw [Int.natCast_add];rfl,by rw [SE.out];try (congr 1;omega),N5.out.gwY B6x.out,nextB A5.out B6x.out⟩
   ·have qi':¬ (i:Int)<(es.length:Int):=by omega
    have TK:=hid (show es.take i=es from List.take_of_length_le (by omega))
    rw [TK.out]
    go_wp2_with fail
    go_returns
    exact ⟨by rw [S2.out.1,S2.out.2];rfl,nextB BX.out II.out.bl⟩
end Go.Proofs.YteknljnjcoehoaaGreatDoor
