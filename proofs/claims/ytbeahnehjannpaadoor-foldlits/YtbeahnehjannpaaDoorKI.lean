/- Parts of the proof. -/
import Derived.Test.YtbeahnehjannpaaDoorKE
import Derived.BigQuiet
import Derived.Test.YtbeahnehjannpaaDoorKH
import Derived.Deep.RegionHeld3
namespace Go.Proofs.YtbeahnehjannpaaDoor
open Go.RowKit
set_option linter.unusedVariables false
set_option linter.unusedSimpArgs false
structure Ky (w:World) (base:Nat) (v:Value) (ts:List Tr):Prop where
 ex:∃ R:List (Tr × Value),R.map Prod.fst=ts∧w.ownsRow base 31 6 v R.length (R.flatMap nC)∧(∀ x ∈ R,Nd w (fun g=>base≤g∧some g≠v.ownBlock) x.2 x.1.kids)∧(R=[]→v=.slice none 0 0)
theorem Ky.nil (w:World) (base:Nat):Ky w base (.slice none 0 0) []:=⟨[],rfl,World.ownsRow_nil _ _ _ _,fun x h=>by simp at h,fun _=>rfl⟩
theorem Ky.keep {w w':World} {base:Nat} {v:Value} {ts:List Tr} (h:Ky w base v ts) (hk:∀ g,base≤g→g<w.heap.size→w'.heap[g]?=w.heap[g]?):Ky w' base v ts:=by
 obtain ⟨R,e,o,n,z⟩:=h.ex
 refine ⟨R,e,⟨o.1,?_⟩,fun x q=>(n x q).keep fun g s l=>⟨s,hk g s.1 l⟩,z⟩
 rcases o.2 with hn | ⟨g,cap,cur,hv,hb,hg,rest⟩
 ·exact .inl hn
 ·refine .inr ⟨g,cap,cur,hv,hb,?_,rest⟩
  rw [hk g hb (Array.getElem?_eq_some_iff.1 hg).1]
  exact hg
theorem Ky.gr {w w':World} {base p:Nat} {v:Value} {ts:List Tr} (h:Ky w base v ts) (hg:Gr w w' p) (hp:p<base):Ky w' base v ts :=
 h.keep fun g s l=>hg.block g l (fun e=>by injection e with e;omega)
theorem Ky.next {w w':World} {base:Nat} {v:Value} {ts:List Tr} (h:Ky w base v ts) (hb:Below w.heap.size w w'):Ky w' base v ts:=h.keep fun g s l=>hb.block g l
theorem Ky.put {w:World} {base:Nat} {v:Value} {ts:List Tr} (h:Ky w base v ts) {q i:Nat} (hq:q<base) (u:Value):Ky (w.setCell ⟨q,i,none⟩ u) base v ts :=
 h.keep fun g s l=>Below.heap_setCell w ⟨q,i,none⟩ u g (by show g≠q;omega)
theorem Ky.lt {w:World} {base:Nat} {v:Value} {ts:List Tr} (h:Ky w base v ts):∀ k,v.ownBlock=some k→base≤k∧k<w.heap.size:=by
 obtain ⟨R,_,o,_,_⟩:=h.ex
 exact World.ownsRow.lt o
theorem Ky.nd {w:World} {base:Nat} {v:Value} {ts:List Tr} (h:Ky w base v ts):Nd w (fun g=>base≤g) v ts:=by
 obtain ⟨R,rfl,o,n,z⟩:=h.ex
 rcases o.2 with ⟨rfl,h1⟩ | ⟨g,cap,cur,rfl,hb,hg,hn,hm,hs,ht⟩
 ·have e:R=[]:=List.eq_nil_of_length_eq_zero h1
  subst e
  exact .nil
 ·have cell:∀ (j:Nat) (u:Value),(R.flatMap nC)[j]?=some u→w.cell? ⟨g,j,none⟩=some u:=fun j u hu=>by
   have l:=(List.getElem?_eq_some_iff.1 hu).1
   have l2:=o.1
   rw [← ht,List.getElem?_take_of_lt (by omega),Array.getElem?_toList] at hu
   simp [World.cell?,hg,hu]
  cases R with
  | nil=>cases z rfl
  | cons y R =>
   have q:=Nd.row (w:=w) (S:=fun g=>base≤g) g cap ((y :: R).map Prod.fst) (fun i=>(((y :: R)[i]?).map Prod.snd).getD (.slice none 0 0)) hb (by simp) ?_ ?_
   ·simpa using q
   ·intro i t e
    rw [List.getElem?_map] at e
    obtain ⟨x,hx,rfl⟩:=Option.map_eq_some_iff.1 e
    rw [hx]
    exact ⟨cell _ _ ((flat_at _ i x 0 hx (by decide)).trans rfl),cell _ _ ((flat_at _ i x 1 hx (by decide)).trans rfl),cell _ _ ((flat_at _ i x 2 hx (by decide)).trans rfl),cell _ _ ((flat_at _ i x 3 hx (by decide)).trans rfl),cell _ _ ((flat_at _ i x 4 hx (by decide)).trans rfl),cell _ _ ((flat_at _ i x 5 hx (by decide)).trans rfl)⟩
   ·intro i t e
    rw [List.getElem?_map] at e
    obtain ⟨x,hx,rfl⟩:=Option.map_eq_some_iff.1 e
    rw [hx]
    exact (n x (List.mem_of_getElem? hx)).keep fun g s l=>⟨s.1,rfl⟩
theorem nodeInfoR:(Tryd.prog.info? 31).map (fun i=>(i.zero,i.size,i.bytes))=some (some (.agg #[.string ⟨#[]⟩,.string ⟨#[]⟩,.int .i64 0,.int .i64 0,.int .i64 0,.slice none 0 0]),6,80):=by kernel_rfl
theorem Ky.add {w w':World} {base:Nat} {v v':Value} {ts:List Tr} {t:Tr} {sl:Value} {R:List (Tr × Value)} (e:R.map Prod.fst=ts) (n:∀ x ∈ R,Nd w (fun g=>base≤g∧some g≠v.ownBlock) x.2 x.1.kids) (hn:Nd w (fun g=>base≤g∧some g≠v.ownBlock) sl t.kids)
  (o:w'.ownsRow base 31 6 v' (R.length+1) (R.flatMap nC ++ nC (t,sl))) (hg:w.grownBy w' v.ownBlock) (hw:v'.ownBlock=v.ownBlock∨v'.ownBlock=some w.heap.size):Ky w' base v' (ts ++ [t]):=by
 have kp:∀ g,(base≤g∧some g≠v.ownBlock)→g<w.heap.size→(base≤g∧some g≠v'.ownBlock)∧w'.heap[g]?=w.heap[g]?:=fun g s l=>⟨⟨s.1,by
  rcases hw with q | q
  ·rw [q];exact s.2
  ·rw [q];intro e;injection e with e;omega⟩,hg.block g l s.2⟩
 refine ⟨R ++ [(t,sl)],by simp [e],?_,?_,fun q=>by simp at q⟩
 ·rw [List.length_append,List.flatMap_append,List.flatMap_cons,List.flatMap_nil,List.append_nil]
  exact o
 ·intro x hx
  rcases List.mem_append.1 hx with q | q
  ·exact (n x q).keep kp
  ·obtain rfl:=List.mem_singleton.1 q
   exact hn.keep kp
theorem wpList_addM {w : World} {ops : Array Oper} {rest : List Oper} {o : Oper} {a : Act} {Q : Exit → Act → World → Prop} (hgd : o.guard = none) (sl x : Operand)
    (ho : o.op = .call { callee := .builtin .append, args := #[sl, x], argTypes := #[29, 29] }) (base : Nat) (v : Value) (ts : List Tr) (t : Tr) (vk : Value) (hs : a.eval sl = v) (hown : Ky w base v ts)
    (b : Nat) (hx : a.eval x = .slice (some ⟨b, 0, none⟩) 1 1) (hc : NC w b 0 t vk) (hk : Nd w (fun g => base ≤ g ∧ some g ≠ v.ownBlock) vk t.kids) (hl : ts.length ≤ 100000) (hbase : base ≤ w.heap.size)
    (h : ∀ v' w', Ky w' base v' (ts ++ [t]) → w.grownBy w' v.ownBlock → wpList Tryd.prog ops Q rest (a.put o.dst v') w') : wpList Tryd.prog ops Q (o :: rest) a w := by
  obtain ⟨i0, hi, hz0, hz1, hz2⟩ := info_parts nodeInfoR
  obtain ⟨R, e, ow, n, z⟩ := hown.ex
  have rl : R.length = ts.length := by rw [← e]; simp
  refine wpList_plain hgd fun K hK => ?_
  obtain ⟨v', w', hr, h2, h3, h4⟩ := run_app (P := Tryd.prog) w base 29 o.type 31 i0 _ 6 80 Tryd.underlying29 hi hz0 hz1 hz2 rfl (by decide) v R.length (R.flatMap nC) ow ⟨b, 0, none⟩ 1 (nC (t, vk)) rfl (fun j u hu => by
      have : w.cell? ⟨b, j, none⟩ = some u := by
        match j, hu with
        | 0, hu => simp [nC] at hu; rw [← hu]; exact hc.e0
        | 1, hu => simp [nC] at hu; rw [← hu]; exact hc.e1
        | 2, hu => simp [nC] at hu; rw [← hu]; exact hc.e2
        | 3, hu => simp [nC] at hu; rw [← hu]; exact hc.e3
        | 4, hu => simp [nC] at hu; rw [← hu]; exact hc.e4
        | 5, hu => simp [nC] at hu; rw [← hu]; exact hc.e5
        | j + 6, hu => simp [nC] at hu
      cases j with
      | zero => simpa [Addr.add] using this
      | succ j => simpa [Addr.add] using this) (fun u hu => by
      simp [nC] at hu
      rcases hu with rfl | rfl | rfl | rfl | rfl | rfl <;> first | rfl | exact nd_one hk) (by unfold maxLen; omega) (by omega) hbase
  unfold Oper.wp execOp
  simp only [ho, resolve, invoke, builtin, Sem.run_bind, Sem.run_pure, Result.andThen_ok, List.map_toArray, List.map_cons, List.map_nil, hs, hx, hr]
  exact hK _ _ (h v' w' (Ky.add e n hk h2 h3 h4) h3)
theorem Ky.sl {w:World} {base:Nat} {v:Value} {ts:List Tr} (h:Ky w base v ts):∃ sa sc,v=.slice sa ts.length sc:=by
 cases h.nd with
 | nil=>exact ⟨_,_,rfl⟩
 | row g c ts sl hs h0 hc hk=>exact ⟨_,_,rfl⟩
theorem Ky.sl3 {w:World} {base:Nat} {v:Value} {ts:List Tr} (h:Ky w base v ts):∃ sa sm sc,v=.slice sa sm sc∧Hid (sm=ts.length):=by
 obtain ⟨sa,sc,e⟩:=h.sl
 exact ⟨sa,_,sc,e,rfl⟩
theorem Ky.grown {w w':World} {base:Nat} {v:Value} {ts:List Tr} (h:Ky w base v ts) (hk:∀ g,base≤g→g<w.heap.size→w'.heap[g]?=w.heap[g]?):Ky w' base v ts:=h.keep hk
theorem Sw.keep {w w':World} {p b c:Nat} {ws:List Wo} {d:Nat} {s:Sp} (h:Sw w p b c ws d s) (h1:w'.heap[p]?=w.heap[p]?) (h2:w'.heap[b]?=w.heap[b]?):Sw w' p b c ws d s:=by obtain ⟨k,e,q⟩:=h.ex;exact ⟨k,e,q.keep h1 h2⟩
structure Tb (w wr:World) (p b c:Nat) (ws:List Wo) (d n0 q:Nat) (op nm:ByteArray) (kd kk at_:Nat) (sl:Value) (ts:List Tr) (s:Sp):Prop where
 hs:Sw wr p b c ws d s
 hg:Gr w wr p
 hb:B6 wr w.heap.size (.string ⟨#[]⟩) (.string ⟨#[]⟩) (.int .i64 0) (.int .i64 0) (.int .i64 0) (.slice none 0 0)
 sz:n0≤wr.heap.size
 nb:B6 wr q (.string op) (.string nm) (.int .i64 (kd:Nat)) (.int .i64 (kk:Nat)) (.int .i64 (at_:Nat)) sl
 ky:Ky wr (q+1) sl ts
 pn:p<w.heap.size
 bn:b<w.heap.size
 wn:w.heap.size<n0
 qn:n0≤q
theorem Tb.next {w wr w':World} {p b c:Nat} {ws:List Wo} {d n0 q:Nat} {op nm:ByteArray} {kd kk at_:Nat} {sl:Value} {ts:List Tr} {s:Sp} (h:Tb w wr p b c ws d n0 q op nm kd kk at_ sl ts s) (k:Below wr.heap.size wr w'):Tb w w' p b c ws d n0 q op nm kd kk at_ sl ts s :=
 ⟨h.hs.next k,h.hg.below k,h.hb.next k,Nat.le_trans h.sz k.size,h.nb.next k,h.ky.next k,h.pn,h.bn,h.wn,h.qn⟩
theorem Tb.gr {w wr w':World} {p b c:Nat} {ws:List Wo} {d n0 q:Nat} {op nm:ByteArray} {kd kk at_:Nat} {sl:Value} {ts:List Tr} {s s':Sp} (h:Tb w wr p b c ws d n0 q op nm kd kk at_ sl ts s) (hs:Sw w' p b c ws d s') (k:Gr wr w' p):Tb w w' p b c ws d n0 q op nm kd kk at_ sl ts s' :=
 ⟨hs,h.hg.trans k,h.hb.gr k (by have:=h.pn;omega),Nat.le_trans h.sz k.size,h.nb.gr k (by have:=h.pn;have:=h.wn;have:=h.qn;omega),h.ky.gr k (by have:=h.pn;have:=h.wn;have:=h.qn;omega),h.pn,h.bn,h.wn,h.qn⟩
theorem Tb.off {w wr:World} {p b c:Nat} {ws:List Wo} {d n0 q:Nat} {op nm:ByteArray} {kd kk at_:Nat} {sl:Value} {ts:List Tr} {s:Sp} (h:Tb w wr p b c ws d n0 q op nm kd kk at_ sl ts s) {x:Nat} (hx:x≤q):some x≠sl.ownBlock:=fun e=>by
 have:=(h.ky.lt x e.symm).1
 omega
theorem Tb.kid {w wr w':World} {p b c:Nat} {ws:List Wo} {d n0 q:Nat} {op nm:ByteArray} {kd kk at_:Nat} {sl v:Value} {ts ts':List Tr} {s:Sp} (h:Tb w wr p b c ws d n0 q op nm kd kk at_ sl ts s) (g2:wr.grownBy w' sl.ownBlock) (o2:Ky w' (q+1) v ts'):Tb w (w'.setCell ⟨q,5,none⟩ v) p b c ws d n0 q op nm kd kk at_ v ts' s:=by
 have a1:=h.pn
 have a2:=h.wn
 have a3:=h.qn
 have a4:=h.bn
 have hs:Sw w' p b c ws d s:=h.hs.keep (g2.block p h.hs.pl (h.off (by omega))) (g2.block b h.hs.bl (h.off (by omega)))
 have hg:Gr w w' p:=h.hg.own g2 (fun i e=>by have:=(h.ky.lt i e).1;omega)
 exact ⟨hs.put (by omega) (by omega) _,hg.put (by omega) _,(h.hb.grown g2 (h.off (by omega))).put (by omega) _,by simpa using Nat.le_trans h.sz g2.size,(h.nb.grown g2 (h.off (by omega))).set5 _,o2.put (by omega) _,h.pn,h.bn,h.wn,h.qn⟩
set_option maxRecDepth 100000 in
set_option maxHeartbeats 4000000 in
theorem rdecl_input {w:World} {p b c:Nat} {ws:List Wo} {d:Nat} {s:Sp} (h:Sw w p b c ws d s) (y1:s.is ⟨#[105,110,112,117,116]⟩=true) (rn:ByteArray × Sp) (rk:Nat × Sp) (hn:s.nx.nm=rn) (hk:rn.2.kd=rk) :
  Calls Tryd.prog 26 #[.pointer (some ⟨p,0,none⟩)] w fun e w'=>Rn w w' p b c ws d e (.nd ⟨#[105,110,112,117,116]⟩ rn.1 rk.1 0 (aw s.l) [],rk.2.want ⟨#[59]⟩):=by
 have pl0:=h.pl
 have bl0:=h.bl
 have HB:=hid (B6.new w 31 (.string ⟨#[]⟩) (.string ⟨#[]⟩) (.int .i64 0) (.int .i64 0) (.int .i64 0) (.slice none 0 0))
 have HS0:Hid (Below w.heap.size w (w.alloc (.cells #[.string ⟨#[]⟩,.string ⟨#[]⟩,.int .i64 0,.int .i64 0,.int .i64 0,.slice none 0 0] 31))):=(Below.refl _ _).alloc (Nat.le_refl _) _
 have HS:=hid (h.next HS0.out)
 have HG:=hid ((Gr.refl w p).below HS0.out)
 have WS:=hid (show w.heap.size<(w.alloc (.cells #[.string ⟨#[]⟩,.string ⟨#[]⟩,.int .i64 0,.int .i64 0,.int .i64 0,.slice none 0 0] 31)).heap.size from by simp)
 have f0:=fd0
 have f1:=fd1
 have f3:=fd3
 have Y1:=hid y1
 have HN:=hid hn
 have HK:=hid hk
 clear h y1 hn hk
 go_enter Tryd.func26,Tryd.ntmps26
 go_upto_region 1 with fail
 generalize World.alloc w _=w1 at *
 obtain ⟨n0,hn0⟩:∃ n,n=w1.heap.size:=⟨_,rfl⟩
 have wn:w.heap.size<n0:=by rw [hn0];exact WS.out
 have pn:p<n0:=by omega
 have bn:b<n0:=by omega
 replace WS:=hid (Nat.le_of_eq hn0)
 clear hn0 HS0
 have WC:=hid (rw_any HS.out)
 go_upto_region 2 with (go_at_call 40;with_reducible refine Calls.mono WC.out ?_;rintro e w2 ⟨rfl,b2⟩;replace HS:=hid (HS.out.next b2);replace HG:=hid (HG.out.below b2);replace HB:=hid (HB.out.next b2);replace WS:=hid (Nat.le_trans WS.out b2.size);clear b2 WC)
 go_upto_region 4 with fail
 have AL:=hid (show Below w2.heap.size w2 (w2.alloc (.cells #[.string ⟨#[]⟩,.string ⟨#[]⟩,.int .i64 0,.int .i64 0,.int .i64 (aw s.l:Nat),.slice none 0 0] 31)) from (Below.refl _ _).alloc (Nat.le_refl _) _)
 have NB:=hid (show Bq (w2.alloc (.cells #[.string ⟨#[]⟩,.string ⟨#[]⟩,.int .i64 0,.int .i64 0,.int .i64 (aw s.l:Nat),.slice none 0 0] 31)) n0 w2.heap.size (.nd ⟨#[]⟩ ⟨#[]⟩ 0 0 (aw s.l) []) (.slice none 0 0) from ⟨B6.new w2 31 _ _ _ _ _ _,.nil,WS.out⟩)
 replace HS:=hid (HS.out.next AL.out)
 replace HG:=hid (HG.out.below AL.out)
 replace HB:=hid (HB.out.next AL.out)
 have qn:n0≤w2.heap.size:=WS.out
 replace WS:=hid (Nat.le_trans WS.out AL.out.size)
 clear AL
 generalize World.alloc w2 _=yb at *
 generalize w2.heap.size=q at *
 have TK:=hid (rtake_any HS.out ⟨#[105,110,112,117,116]⟩)
 rw [tk_yes Y1.out,Y1.out] at TK
 go_upto_region 5 with (go_at_call 41;with_reducible refine Calls.mono TK.out ?_;rintro e w3 ⟨rfl,h3,g3⟩;replace HS:=hid h3;replace HG:=hid (HG.out.trans g3);replace HB:=hid (HB.out.gr g3 (by omega));replace WS:=hid (Nat.le_trans WS.out g3.size);replace NB:=hid (NB.out.gr g3 pn);clear h3 g3 TK)
 obtain ⟨v0,v1,v2,v3,v4,v5,vz⟩:=(show B6 _ q (.string ⟨#[]⟩) (.string ⟨#[]⟩) (.int .i64 0) (.int .i64 0) (.int .i64 (aw s.l:Nat)) (.slice none 0 0) from NB.out.b)
 go_upto_region 6 with fail
 replace HS:=hid (HS.out.put (q:=q) (i:=0) (by omega) (by omega) (.string ⟨#[105,110,112,117,116]⟩))
 replace HG:=hid (HG.out.put (q:=q) (i:=0) (by omega) (.string ⟨#[105,110,112,117,116]⟩))
 replace HB:=hid (HB.out.put (q:=q) (i:=0) (by omega) (.string ⟨#[105,110,112,117,116]⟩))
 replace WS:=hid (show n0≤(w3.setCell ⟨q,0,none⟩ (.string ⟨#[105,110,112,117,116]⟩)).heap.size from by simpa using WS.out)
 replace NB:=hid (show Bq (w3.setCell ⟨q,0,none⟩ (.string ⟨#[105,110,112,117,116]⟩)) n0 q (.nd ⟨#[105,110,112,117,116]⟩ ⟨#[]⟩ 0 0 (aw s.l) []) (.slice none 0 0) from ⟨NB.out.b.set0 _,NB.out.d.put (n:=0) (fun e=>e.2 rfl) _,NB.out.l⟩)
 clear v0 v1 v2 v3 v4 v5 vz
 generalize World.setCell w3 _ _=z4 at *
 have NC:=hid (rname_any HS.out)
 rw [HN.out] at NC
 go_upto_region 7 with (go_at_call 42;with_reducible refine Calls.mono NC.out ?_;rintro e w5 ⟨rfl,h5,g5⟩;replace HS:=hid h5;replace HG:=hid (HG.out.trans g5);replace HB:=hid (HB.out.gr g5 (by omega));replace WS:=hid (Nat.le_trans WS.out g5.size);replace NB:=hid (NB.out.gr g5 pn);obtain ⟨v0,v1,v2,v3,v4,v5,vz⟩:=(show B6 _ q (.string ⟨#[105,110,112,117,116]⟩) (.string ⟨#[]⟩) (.int .i64 0) (.int .i64 0) (.int .i64 (aw s.l:Nat)) (.slice none 0 0) from NB.out.b);clear h5 g5 NC)
 replace HS:=hid (HS.out.put (q:=q) (i:=1) (by omega) (by omega) (.string rn.1))
 replace HG:=hid (HG.out.put (q:=q) (i:=1) (by omega) (.string rn.1))
 replace HB:=hid (HB.out.put (q:=q) (i:=1) (by omega) (.string rn.1))
 replace WS:=hid (show n0≤(w5.setCell ⟨q,1,none⟩ (.string rn.1)).heap.size from by simpa using WS.out)
 replace NB:=hid (show Bq (w5.setCell ⟨q,1,none⟩ (.string rn.1)) n0 q (.nd ⟨#[105,110,112,117,116]⟩ rn.1 0 0 (aw s.l) []) (.slice none 0 0) from ⟨NB.out.b.set1 _,NB.out.d.put (n:=0) (fun e=>e.2 rfl) _,NB.out.l⟩)
 clear v0 v1 v2 v3 v4 v5 vz
 generalize World.setCell w5 _ _=z6 at *
 have NC:=hid (rkind_any HS.out)
 rw [HK.out] at NC
 go_upto_region 8 with (go_at_call 43;with_reducible refine Calls.mono NC.out ?_;rintro e w7 ⟨rfl,h7,g7⟩;replace HS:=hid h7;replace HG:=hid (HG.out.trans g7);replace HB:=hid (HB.out.gr g7 (by omega));replace WS:=hid (Nat.le_trans WS.out g7.size);replace NB:=hid (NB.out.gr g7 pn);obtain ⟨v0,v1,v2,v3,v4,v5,vz⟩:=(show B6 _ q (.string ⟨#[105,110,112,117,116]⟩) (.string rn.1) (.int .i64 0) (.int .i64 0) (.int .i64 (aw s.l:Nat)) (.slice none 0 0) from NB.out.b);clear h7 g7 NC)
 replace HS:=hid (HS.out.put (q:=q) (i:=2) (by omega) (by omega) (.int .i64 (rk.1:Nat)))
 replace HG:=hid (HG.out.put (q:=q) (i:=2) (by omega) (.int .i64 (rk.1:Nat)))
 replace HB:=hid (HB.out.put (q:=q) (i:=2) (by omega) (.int .i64 (rk.1:Nat)))
 replace WS:=hid (show n0≤(w7.setCell ⟨q,2,none⟩ (.int .i64 (rk.1:Nat))).heap.size from by simpa using WS.out)
 replace NB:=hid (show Bq (w7.setCell ⟨q,2,none⟩ (.int .i64 (rk.1:Nat))) n0 q (.nd ⟨#[105,110,112,117,116]⟩ rn.1 rk.1 0 (aw s.l) []) (.slice none 0 0) from ⟨NB.out.b.set2 _,NB.out.d.put (n:=0) (fun e=>e.2 rfl) _,NB.out.l⟩)
 clear v0 v1 v2 v3 v4 v5 vz
 generalize World.setCell w7 _ _=z8 at *
 have WT:=hid (rwant_any HS.out ⟨#[59]⟩)
 go_upto_region 41 with (go_at_call 44;with_reducible refine Calls.mono WT.out ?_;rintro e w9 ⟨rfl,h9,g9⟩;replace HS:=hid h9;replace HG:=hid (HG.out.trans g9);replace HB:=hid (HB.out.gr g9 (by omega));replace WS:=hid (Nat.le_trans WS.out g9.size);replace NB:=hid (NB.out.gr g9 pn);clear h9 g9 WT)
 obtain ⟨u0,u1,u2,u3,u4,u5,uz⟩:=HB.out
 obtain ⟨v0,v1,v2,v3,v4,v5,vz⟩:=(show B6 _ q (.string ⟨#[105,110,112,117,116]⟩) (.string rn.1) (.int .i64 (rk.1:Nat)) (.int .i64 0) (.int .i64 (aw s.l:Nat)) (.slice none 0 0) from NB.out.b)
 have BF:=hid (HB.out.sets (.string ⟨#[105,110,112,117,116]⟩) (.string rn.1) (.int .i64 (rk.1:Nat)) (.int .i64 0) (.int .i64 (aw s.l:Nat)) (.slice none 0 0))
 have SF:=hid (HS.out.put6 (q:=w.heap.size) (by omega) (by omega) (.string ⟨#[105,110,112,117,116]⟩) (.string rn.1) (.int .i64 (rk.1:Nat)) (.int .i64 0) (.int .i64 (aw s.l:Nat)) (.slice none 0 0))
 have GF:=hid (HG.out.put6 (q:=w.heap.size) (by omega) (.string ⟨#[105,110,112,117,116]⟩) (.string rn.1) (.int .i64 (rk.1:Nat)) (.int .i64 0) (.int .i64 (aw s.l:Nat)) (.slice none 0 0))
 have NF:=hid (Nd.put6x (q:=w.heap.size) (m:=w.heap.size) (NB.out.d.keep (S':=fun g=>n0≤g) fun g s l=>⟨s.1,rfl⟩) wn (by omega) (.string ⟨#[105,110,112,117,116]⟩) (.string rn.1) (.int .i64 (rk.1:Nat)) (.int .i64 0) (.int .i64 (aw s.l:Nat)) (.slice none 0 0))
 go_wp2_with fail
 generalize World.setCell _ ⟨w.heap.size,5,none⟩ _=wf at *
 obtain ⟨q0,q1,q2,q3,q4,q5,_⟩:=BF.out
 exact bodyPost_ret (v:=.agg #[.string ⟨#[105,110,112,117,116]⟩,.string rn.1,.int .i64 (rk.1:Nat),.int .i64 0,.int .i64 (aw s.l:Nat),.slice none 0 0]) (by simp [results,Tryd.results26,go_sem,q0,q1,q2,q3,q4,q5]) rfl ⟨GF.out,SF.out,_,rfl,_,rfl,NF.out⟩
set_option maxRecDepth 100000 in
set_option maxHeartbeats 4000000 in
theorem rdecl_rule {w:World} {p b c:Nat} {ws:List Wo} {d:Nat} {s:Sp} (h:Sw w p b c ws d s) (E:Ax) (hE:∀ w s,Sw w p b c ws d s→Calls Tryd.prog 45 #[.pointer (some ⟨p,0,none⟩)] w fun e w'=>Rn w w' p b c ws d e (E s)) (y1:s.is ⟨#[105,110,112,117,116]⟩=false) (y2:s.is ⟨#[114,117,108,101]⟩=true) (rn:ByteArray × Sp) (rk:Nat × Sp) (re:Tr × Sp) (hn:s.nx.nm=rn) (hk:rn.2.kd=rk) (he:E (rk.2.want ⟨#[61]⟩)=re) :
  Calls Tryd.prog 26 #[.pointer (some ⟨p,0,none⟩)] w fun e w'=>Rn w w' p b c ws d e (.nd ⟨#[114,117,108,101]⟩ rn.1 rk.1 0 (aw s.l) [re.1],re.2.want ⟨#[59]⟩):=by
 have pl0:=h.pl
 have bl0:=h.bl
 have HB:=hid (B6.new w 31 (.string ⟨#[]⟩) (.string ⟨#[]⟩) (.int .i64 0) (.int .i64 0) (.int .i64 0) (.slice none 0 0))
 have HS0:Hid (Below w.heap.size w (w.alloc (.cells #[.string ⟨#[]⟩,.string ⟨#[]⟩,.int .i64 0,.int .i64 0,.int .i64 0,.slice none 0 0] 31))):=(Below.refl _ _).alloc (Nat.le_refl _) _
 have HS:=hid (h.next HS0.out)
 have HG:=hid ((Gr.refl w p).below HS0.out)
 have WS:=hid (show w.heap.size<(w.alloc (.cells #[.string ⟨#[]⟩,.string ⟨#[]⟩,.int .i64 0,.int .i64 0,.int .i64 0,.slice none 0 0] 31)).heap.size from by simp)
 have f0:=fd0
 have f1:=fd1
 have f3:=fd3
 have EH:=hid hE
 clear hE
 have Y1:=hid y1
 have Y2:=hid y2
 have HN:=hid hn
 have HK:=hid hk
 have HE:=hid he
 clear h y1 y2 hn hk he
 go_enter Tryd.func26,Tryd.ntmps26
 go_upto_region 1 with fail
 generalize World.alloc w _=w1 at *
 obtain ⟨n0,hn0⟩:∃ n,n=w1.heap.size:=⟨_,rfl⟩
 have wn:w.heap.size<n0:=by rw [hn0];exact WS.out
 have pn:p<n0:=by omega
 have bn:b<n0:=by omega
 replace WS:=hid (Nat.le_of_eq hn0)
 clear hn0 HS0
 have WC:=hid (rw_any HS.out)
 go_upto_region 2 with (go_at_call 40;with_reducible refine Calls.mono WC.out ?_;rintro e w2 ⟨rfl,b2⟩;replace HS:=hid (HS.out.next b2);replace HG:=hid (HG.out.below b2);replace HB:=hid (HB.out.next b2);replace WS:=hid (Nat.le_trans WS.out b2.size);clear b2 WC)
 go_upto_region 4 with fail
 have AL:=hid (show Below w2.heap.size w2 (w2.alloc (.cells #[.string ⟨#[]⟩,.string ⟨#[]⟩,.int .i64 0,.int .i64 0,.int .i64 (aw s.l:Nat),.slice none 0 0] 31)) from (Below.refl _ _).alloc (Nat.le_refl _) _)
 have NB:=hid (show Bq (w2.alloc (.cells #[.string ⟨#[]⟩,.string ⟨#[]⟩,.int .i64 0,.int .i64 0,.int .i64 (aw s.l:Nat),.slice none 0 0] 31)) n0 w2.heap.size (.nd ⟨#[]⟩ ⟨#[]⟩ 0 0 (aw s.l) []) (.slice none 0 0) from ⟨B6.new w2 31 _ _ _ _ _ _,.nil,WS.out⟩)
 replace HS:=hid (HS.out.next AL.out)
 replace HG:=hid (HG.out.below AL.out)
 replace HB:=hid (HB.out.next AL.out)
 have qn:n0≤w2.heap.size:=WS.out
 replace WS:=hid (Nat.le_trans WS.out AL.out.size)
 clear AL
 generalize World.alloc w2 _=yb at *
 generalize w2.heap.size=q at *
 have TK:=hid (rtake_any HS.out ⟨#[105,110,112,117,116]⟩)
 rw [tk_no Y1.out,Y1.out] at TK
 go_upto_region 9 with (go_at_call 41;with_reducible refine Calls.mono TK.out ?_;rintro e w3 ⟨rfl,h3,g3⟩;replace HS:=hid h3;replace HG:=hid (HG.out.trans g3);replace HB:=hid (HB.out.gr g3 (by omega));replace WS:=hid (Nat.le_trans WS.out g3.size);replace NB:=hid (NB.out.gr g3 pn);clear h3 g3 TK)
 have TK:=hid (rtake_any HS.out ⟨#[114,117,108,101]⟩)
 rw [tk_yes Y2.out,Y2.out] at TK
 go_upto_region 10 with (go_at_call 41;with_reducible refine Calls.mono TK.out ?_;rintro e w4 ⟨rfl,h4,g4⟩;replace HS:=hid h4;replace HG:=hid (HG.out.trans g4);replace HB:=hid (HB.out.gr g4 (by omega));replace WS:=hid (Nat.le_trans WS.out g4.size);replace NB:=hid (NB.out.gr g4 pn);clear h4 g4 TK)
 obtain ⟨v0,v1,v2,v3,v4,v5,vz⟩:=(show B6 _ q (.string ⟨#[]⟩) (.string ⟨#[]⟩) (.int .i64 0) (.int .i64 0) (.int .i64 (aw s.l:Nat)) (.slice none 0 0) from NB.out.b)
 go_upto_region 11 with fail
 replace HS:=hid (HS.out.put (q:=q) (i:=0) (by omega) (by omega) (.string ⟨#[114,117,108,101]⟩))
 replace HG:=hid (HG.out.put (q:=q) (i:=0) (by omega) (.string ⟨#[114,117,108,101]⟩))
 replace HB:=hid (HB.out.put (q:=q) (i:=0) (by omega) (.string ⟨#[114,117,108,101]⟩))
 replace WS:=hid (show n0≤(w4.setCell ⟨q,0,none⟩ (.string ⟨#[114,117,108,101]⟩)).heap.size from by simpa using WS.out)
 replace NB:=hid (show Bq (w4.setCell ⟨q,0,none⟩ (.string ⟨#[114,117,108,101]⟩)) n0 q (.nd ⟨#[114,117,108,101]⟩ ⟨#[]⟩ 0 0 (aw s.l) []) (.slice none 0 0) from ⟨NB.out.b.set0 _,NB.out.d.put (n:=0) (fun e=>e.2 rfl) _,NB.out.l⟩)
 clear v0 v1 v2 v3 v4 v5 vz
 generalize World.setCell w4 _ _=z5 at *
 have NC:=hid (rname_any HS.out)
 rw [HN.out] at NC
 go_upto_region 12 with (go_at_call 42;with_reducible refine Calls.mono NC.out ?_;rintro e w6 ⟨rfl,h6,g6⟩;replace HS:=hid h6;replace HG:=hid (HG.out.trans g6);replace HB:=hid (HB.out.gr g6 (by omega));replace WS:=hid (Nat.le_trans WS.out g6.size);replace NB:=hid (NB.out.gr g6 pn);obtain ⟨v0,v1,v2,v3,v4,v5,vz⟩:=(show B6 _ q (.string ⟨#[114,117,108,101]⟩) (.string ⟨#[]⟩) (.int .i64 0) (.int .i64 0) (.int .i64 (aw s.l:Nat)) (.slice none 0 0) from NB.out.b);clear h6 g6 NC)
 replace HS:=hid (HS.out.put (q:=q) (i:=1) (by omega) (by omega) (.string rn.1))
 replace HG:=hid (HG.out.put (q:=q) (i:=1) (by omega) (.string rn.1))
 replace HB:=hid (HB.out.put (q:=q) (i:=1) (by omega) (.string rn.1))
 replace WS:=hid (show n0≤(w6.setCell ⟨q,1,none⟩ (.string rn.1)).heap.size from by simpa using WS.out)
 replace NB:=hid (show Bq (w6.setCell ⟨q,1,none⟩ (.string rn.1)) n0 q (.nd ⟨#[114,117,108,101]⟩ rn.1 0 0 (aw s.l) []) (.slice none 0 0) from ⟨NB.out.b.set1 _,NB.out.d.put (n:=0) (fun e=>e.2 rfl) _,NB.out.l⟩)
 clear v0 v1 v2 v3 v4 v5 vz
 generalize World.setCell w6 _ _=z7 at *
 have NC:=hid (rkind_any HS.out)
 rw [HK.out] at NC
 go_upto_region 13 with (go_at_call 43;with_reducible refine Calls.mono NC.out ?_;rintro e w8 ⟨rfl,h8,g8⟩;replace HS:=hid h8;replace HG:=hid (HG.out.trans g8);replace HB:=hid (HB.out.gr g8 (by omega));replace WS:=hid (Nat.le_trans WS.out g8.size);replace NB:=hid (NB.out.gr g8 pn);obtain ⟨v0,v1,v2,v3,v4,v5,vz⟩:=(show B6 _ q (.string ⟨#[114,117,108,101]⟩) (.string rn.1) (.int .i64 0) (.int .i64 0) (.int .i64 (aw s.l:Nat)) (.slice none 0 0) from NB.out.b);clear h8 g8 NC)
 replace HS:=hid (HS.out.put (q:=q) (i:=2) (by omega) (by omega) (.int .i64 (rk.1:Nat)))
 replace HG:=hid (HG.out.put (q:=q) (i:=2) (by omega) (.int .i64 (rk.1:Nat)))
 replace HB:=hid (HB.out.put (q:=q) (i:=2) (by omega) (.int .i64 (rk.1:Nat)))
 replace WS:=hid (show n0≤(w8.setCell ⟨q,2,none⟩ (.int .i64 (rk.1:Nat))).heap.size from by simpa using WS.out)
 replace NB:=hid (show Bq (w8.setCell ⟨q,2,none⟩ (.int .i64 (rk.1:Nat))) n0 q (.nd ⟨#[114,117,108,101]⟩ rn.1 rk.1 0 (aw s.l) []) (.slice none 0 0) from ⟨NB.out.b.set2 _,NB.out.d.put (n:=0) (fun e=>e.2 rfl) _,NB.out.l⟩)
 clear v0 v1 v2 v3 v4 v5 vz
 generalize World.setCell w8 _ _=z9 at *
 have WT:=hid (rwant_any HS.out ⟨#[61]⟩)
 go_upto_region 14 with (go_at_call 44;with_reducible refine Calls.mono WT.out ?_;rintro e w10 ⟨rfl,h10,g10⟩;replace HS:=hid h10;replace HG:=hid (HG.out.trans g10);replace HB:=hid (HB.out.gr g10 (by omega));replace WS:=hid (Nat.le_trans WS.out g10.size);replace NB:=hid (NB.out.gr g10 pn);clear h10 g10 WT)
 have QL:=hid NB.out.b.lt
 have EC:=hid (EH.out _ _ HS.out)
 rw [HE.out] at EC
 go_upto_region 15 with (go_at_call 45;with_reducible refine Calls.mono EC.out ?_;rintro e w11 h11;obtain ⟨g11,s11,sa11,sm11,sc11,rfl,nv11⟩:=h11.parts;have NV11:=hid nv11;replace HG:=hid (HG.out.trans g11);replace HB:=hid (HB.out.gr g11 (by omega));have WO11:=WS;replace WS:=hid (Nat.le_trans WS.out g11.size);replace HS:=hid s11;replace NB:=hid (NB.out.gr g11 pn);clear h11 g11 s11 nv11 EC)
 have BA:=hid (Bx.new (m:=q+1) NV11.out QL.out NB.out.b.lt 31)
 have AL11:=hid (show Below w11.heap.size w11 (w11.alloc (.cells #[.string re.1.op,.string re.1.name,.int .i64 (re.1.kind:Nat),.int .i64 re.1.n,.int .i64 (re.1.pl:Nat),.slice sa11 sm11 sc11] 31)) from (Below.refl _ _).alloc (Nat.le_refl _) _)
 replace HS:=hid (HS.out.next AL11.out)
 replace HG:=hid (HG.out.below AL11.out)
 replace HB:=hid (HB.out.next AL11.out)
 replace WS:=hid (Nat.le_trans WS.out AL11.out.size)
 replace NB:=hid (NB.out.next AL11.out)
 have ge11:q+1≤w11.heap.size:=BA.out.l
 clear QL
 clear AL11 NV11 WO11
 generalize World.alloc w11 _=y11 at *
 generalize w11.heap.size=bBA at *
 obtain ⟨BA0,BA1,BA2,BA3,BA4,BA5,_⟩:=BA.out.b
 have HS7:=hid (show Below y11.heap.size y11 (y11.alloc (.cells #[.string re.1.op,.string re.1.name,.int .i64 (re.1.kind:Nat),.int .i64 re.1.n,.int .i64 (re.1.pl:Nat),.slice sa11 sm11 sc11] 31)) from (Below.refl _ _).alloc (Nat.le_refl _) _)
 have ys:n0≤y11.heap.size:=WS.out
 have QL2:=hid NB.out.b.lt
 have C0:=hid (show NC (y11.alloc (.cells #[.string re.1.op,.string re.1.name,.int .i64 (re.1.kind:Nat),.int .i64 re.1.n,.int .i64 (re.1.pl:Nat),.slice sa11 sm11 sc11] 31)) y11.heap.size 0 re.1 (.slice sa11 sm11 sc11) from ⟨by simp,by simp,by simp,by simp,by simp,by simp⟩)
 have NN7:=hid (nd_one1 (c:=1) (S:=fun g=>n0≤g∧g≠q) ⟨ys,by have:=QL2.out;omega⟩ C0.out (BA.out.d.keep fun g s l=>⟨⟨by omega,by omega⟩,HS7.out.block g l⟩))
 replace HS:=hid (HS.out.next HS7.out)
 replace HG:=hid (HG.out.below HS7.out)
 replace HB:=hid (HB.out.next HS7.out)
 replace WS:=hid (Nat.le_trans WS.out HS7.out.size)
 replace NB:=hid (NB.out.next HS7.out)
 clear HS7 C0 QL2
 obtain ⟨v0,v1,v2,v3,v4,v5,vz⟩:=(show B6 _ q (.string ⟨#[114,117,108,101]⟩) (.string rn.1) (.int .i64 (rk.1:Nat)) (.int .i64 0) (.int .i64 (aw s.l:Nat)) (.slice none 0 0) from NB.out.b)
 go_upto_region 16 with fail
 replace HS:=hid (HS.out.put (q:=q) (i:=5) (by omega) (by omega) (.slice (some ⟨y11.heap.size,0,none⟩) 1 1))
 replace HG:=hid (HG.out.put (q:=q) (i:=5) (by omega) (.slice (some ⟨y11.heap.size,0,none⟩) 1 1))
 replace HB:=hid (HB.out.put (q:=q) (i:=5) (by omega) (.slice (some ⟨y11.heap.size,0,none⟩) 1 1))
 replace WS:=hid (show n0≤((y11.alloc (.cells #[.string re.1.op,.string re.1.name,.int .i64 (re.1.kind:Nat),.int .i64 re.1.n,.int .i64 (re.1.pl:Nat),.slice sa11 sm11 sc11] 31)).setCell ⟨q,5,none⟩ (.slice (some ⟨y11.heap.size,0,none⟩) 1 1)).heap.size from by simpa using WS.out)
 replace NB:=hid (show Bq ((y11.alloc (.cells #[.string re.1.op,.string re.1.name,.int .i64 (re.1.kind:Nat),.int .i64 re.1.n,.int .i64 (re.1.pl:Nat),.slice sa11 sm11 sc11] 31)).setCell ⟨q,5,none⟩ (.slice (some ⟨y11.heap.size,0,none⟩) 1 1)) n0 q (.nd ⟨#[114,117,108,101]⟩ rn.1 rk.1 0 (aw s.l) [re.1]) (.slice (some ⟨y11.heap.size,0,none⟩) 1 1) from ⟨NB.out.b.set5 _,NN7.out.put (n:=0) (fun e=>e.2 rfl) _,NB.out.l⟩)
 clear v0 v1 v2 v3 v4 v5 vz
 generalize World.setCell (y11.alloc _) _ _=z12 at *
 clear NN7 ys BA BA0 BA1 BA2 BA3 BA4 BA5
 generalize y11.heap.size=bz at *
 have WT:=hid (rwant_any HS.out ⟨#[59]⟩)
 go_upto_region 41 with (go_at_call 44;with_reducible refine Calls.mono WT.out ?_;rintro e w13 ⟨rfl,h13,g13⟩;replace HS:=hid h13;replace HG:=hid (HG.out.trans g13);replace HB:=hid (HB.out.gr g13 (by omega));replace WS:=hid (Nat.le_trans WS.out g13.size);replace NB:=hid (NB.out.gr g13 pn);clear h13 g13 WT)
 obtain ⟨u0,u1,u2,u3,u4,u5,uz⟩:=HB.out
 obtain ⟨v0,v1,v2,v3,v4,v5,vz⟩:=(show B6 _ q (.string ⟨#[114,117,108,101]⟩) (.string rn.1) (.int .i64 (rk.1:Nat)) (.int .i64 0) (.int .i64 (aw s.l:Nat)) (.slice (some ⟨bz,0,none⟩) 1 1) from NB.out.b)
 have BF:=hid (HB.out.sets (.string ⟨#[114,117,108,101]⟩) (.string rn.1) (.int .i64 (rk.1:Nat)) (.int .i64 0) (.int .i64 (aw s.l:Nat)) (.slice (some ⟨bz,0,none⟩) 1 1))
 have SF:=hid (HS.out.put6 (q:=w.heap.size) (by omega) (by omega) (.string ⟨#[114,117,108,101]⟩) (.string rn.1) (.int .i64 (rk.1:Nat)) (.int .i64 0) (.int .i64 (aw s.l:Nat)) (.slice (some ⟨bz,0,none⟩) 1 1))
 have GF:=hid (HG.out.put6 (q:=w.heap.size) (by omega) (.string ⟨#[114,117,108,101]⟩) (.string rn.1) (.int .i64 (rk.1:Nat)) (.int .i64 0) (.int .i64 (aw s.l:Nat)) (.slice (some ⟨bz,0,none⟩) 1 1))
 have NF:=hid (Nd.put6x (q:=w.heap.size) (m:=w.heap.size) (NB.out.d.keep (S':=fun g=>n0≤g) fun g s l=>⟨s.1,rfl⟩) wn (by omega) (.string ⟨#[114,117,108,101]⟩) (.string rn.1) (.int .i64 (rk.1:Nat)) (.int .i64 0) (.int .i64 (aw s.l:Nat)) (.slice (some ⟨bz,0,none⟩) 1 1))
 go_wp2_with fail
 generalize World.setCell _ ⟨w.heap.size,5,none⟩ _=wf at *
 obtain ⟨q0,q1,q2,q3,q4,q5,_⟩:=BF.out
 exact bodyPost_ret (v:=.agg #[.string ⟨#[114,117,108,101]⟩,.string rn.1,.int .i64 (rk.1:Nat),.int .i64 0,.int .i64 (aw s.l:Nat),.slice (some ⟨bz,0,none⟩) 1 1]) (by simp [results,Tryd.results26,go_sem,q0,q1,q2,q3,q4,q5]) rfl ⟨GF.out,SF.out,_,rfl,_,rfl,NF.out⟩
set_option maxRecDepth 100000 in
set_option maxHeartbeats 4000000 in
theorem rdecl_no {w:World} {p b c:Nat} {ws:List Wo} {d:Nat} {s:Sp} (h:Sw w p b c ws d s) (y1:s.is ⟨#[105,110,112,117,116]⟩=false) (y2:s.is ⟨#[114,117,108,101]⟩=false) (y3:s.is ⟨#[116,97,98,108,101]⟩=false) :
  Calls Tryd.prog 26 #[.pointer (some ⟨p,0,none⟩)] w fun e w'=>Rn w w' p b c ws d e (.nd ⟨#[]⟩ ⟨#[]⟩ 0 0 (aw s.l) [],s.fail):=by
 have pl0:=h.pl
 have bl0:=h.bl
 have HB:=hid (B6.new w 31 (.string ⟨#[]⟩) (.string ⟨#[]⟩) (.int .i64 0) (.int .i64 0) (.int .i64 0) (.slice none 0 0))
 have HS0:Hid (Below w.heap.size w (w.alloc (.cells #[.string ⟨#[]⟩,.string ⟨#[]⟩,.int .i64 0,.int .i64 0,.int .i64 0,.slice none 0 0] 31))):=(Below.refl _ _).alloc (Nat.le_refl _) _
 have HS:=hid (h.next HS0.out)
 have HG:=hid ((Gr.refl w p).below HS0.out)
 have WS:=hid (show w.heap.size<(w.alloc (.cells #[.string ⟨#[]⟩,.string ⟨#[]⟩,.int .i64 0,.int .i64 0,.int .i64 0,.slice none 0 0] 31)).heap.size from by simp)
 have f0:=fd0
 have f1:=fd1
 have f3:=fd3
 have Y1:=hid y1
 have Y2:=hid y2
 have Y3:=hid y3
 clear h y1 y2 y3
 go_enter Tryd.func26,Tryd.ntmps26
 go_upto_region 1 with fail
 generalize World.alloc w _=w1 at *
 obtain ⟨n0,hn0⟩:∃ n,n=w1.heap.size:=⟨_,rfl⟩
 have wn:w.heap.size<n0:=by rw [hn0];exact WS.out
 have pn:p<n0:=by omega
 have bn:b<n0:=by omega
 replace WS:=hid (Nat.le_of_eq hn0)
 clear hn0 HS0
 have WC:=hid (rw_any HS.out)
 go_upto_region 2 with (go_at_call 40;with_reducible refine Calls.mono WC.out ?_;rintro e w2 ⟨rfl,b2⟩;replace HS:=hid (HS.out.next b2);replace HG:=hid (HG.out.below b2);replace HB:=hid (HB.out.next b2);replace WS:=hid (Nat.le_trans WS.out b2.size);clear b2 WC)
 go_upto_region 4 with fail
 have AL:=hid (show Below w2.heap.size w2 (w2.alloc (.cells #[.string ⟨#[]⟩,.string ⟨#[]⟩,.int .i64 0,.int .i64 0,.int .i64 (aw s.l:Nat),.slice none 0 0] 31)) from (Below.refl _ _).alloc (Nat.le_refl _) _)
 have NB:=hid (show Bq (w2.alloc (.cells #[.string ⟨#[]⟩,.string ⟨#[]⟩,.int .i64 0,.int .i64 0,.int .i64 (aw s.l:Nat),.slice none 0 0] 31)) n0 w2.heap.size (.nd ⟨#[]⟩ ⟨#[]⟩ 0 0 (aw s.l) []) (.slice none 0 0) from ⟨B6.new w2 31 _ _ _ _ _ _,.nil,WS.out⟩)
 replace HS:=hid (HS.out.next AL.out)
 replace HG:=hid (HG.out.below AL.out)
 replace HB:=hid (HB.out.next AL.out)
 have qn:n0≤w2.heap.size:=WS.out
 replace WS:=hid (Nat.le_trans WS.out AL.out.size)
 clear AL
 generalize World.alloc w2 _=yb at *
 generalize w2.heap.size=q at *
 have TK:=hid (rtake_any HS.out ⟨#[105,110,112,117,116]⟩)
 rw [tk_no Y1.out,Y1.out] at TK
 go_upto_region 9 with (go_at_call 41;with_reducible refine Calls.mono TK.out ?_;rintro e w3 ⟨rfl,h3,g3⟩;replace HS:=hid h3;replace HG:=hid (HG.out.trans g3);replace HB:=hid (HB.out.gr g3 (by omega));replace WS:=hid (Nat.le_trans WS.out g3.size);replace NB:=hid (NB.out.gr g3 pn);clear h3 g3 TK)
 have TK:=hid (rtake_any HS.out ⟨#[114,117,108,101]⟩)
 rw [tk_no Y2.out,Y2.out] at TK
 go_upto_region 17 with (go_at_call 41;with_reducible refine Calls.mono TK.out ?_;rintro e w4 ⟨rfl,h4,g4⟩;replace HS:=hid h4;replace HG:=hid (HG.out.trans g4);replace HB:=hid (HB.out.gr g4 (by omega));replace WS:=hid (Nat.le_trans WS.out g4.size);replace NB:=hid (NB.out.gr g4 pn);clear h4 g4 TK)
 have TK:=hid (rtake_any HS.out ⟨#[116,97,98,108,101]⟩)
 rw [tk_no Y3.out,Y3.out] at TK
 go_upto_region 3 with (go_at_call 41;with_reducible refine Calls.mono TK.out ?_;rintro e w5 ⟨rfl,h5,g5⟩;replace HS:=hid h5;replace HG:=hid (HG.out.trans g5);replace HB:=hid (HB.out.gr g5 (by omega));replace WS:=hid (Nat.le_trans WS.out g5.size);replace NB:=hid (NB.out.gr g5 pn);clear h5 g5 TK)
 have FC:=hid (rfail_any HS.out)
 go_upto_region 41 with (go_at_call 49;with_reducible refine Calls.mono FC.out ?_;rintro e w6 ⟨rfl,h6,g6⟩;replace HS:=hid h6;replace HG:=hid (HG.out.trans g6);replace HB:=hid (HB.out.gr g6 (by omega));replace WS:=hid (Nat.le_trans WS.out g6.size);replace NB:=hid (NB.out.gr g6 pn);clear h6 g6 FC)
 obtain ⟨u0,u1,u2,u3,u4,u5,uz⟩:=HB.out
 obtain ⟨v0,v1,v2,v3,v4,v5,vz⟩:=(show B6 _ q (.string ⟨#[]⟩) (.string ⟨#[]⟩) (.int .i64 0) (.int .i64 0) (.int .i64 (aw s.l:Nat)) (.slice none 0 0) from NB.out.b)
 have BF:=hid (HB.out.sets (.string ⟨#[]⟩) (.string ⟨#[]⟩) (.int .i64 0) (.int .i64 0) (.int .i64 (aw s.l:Nat)) (.slice none 0 0))
 have SF:=hid (HS.out.put6 (q:=w.heap.size) (by omega) (by omega) (.string ⟨#[]⟩) (.string ⟨#[]⟩) (.int .i64 0) (.int .i64 0) (.int .i64 (aw s.l:Nat)) (.slice none 0 0))
 have GF:=hid (HG.out.put6 (q:=w.heap.size) (by omega) (.string ⟨#[]⟩) (.string ⟨#[]⟩) (.int .i64 0) (.int .i64 0) (.int .i64 (aw s.l:Nat)) (.slice none 0 0))
 have NF:=hid (Nd.put6x (q:=w.heap.size) (m:=w.heap.size) (NB.out.d.keep (S':=fun g=>n0≤g) fun g s l=>⟨s.1,rfl⟩) wn (by omega) (.string ⟨#[]⟩) (.string ⟨#[]⟩) (.int .i64 0) (.int .i64 0) (.int .i64 (aw s.l:Nat)) (.slice none 0 0))
 go_wp2_with fail
 generalize World.setCell _ ⟨w.heap.size,5,none⟩ _=wf at *
 obtain ⟨q0,q1,q2,q3,q4,q5,_⟩:=BF.out
 exact bodyPost_ret (v:=.agg #[.string ⟨#[]⟩,.string ⟨#[]⟩,.int .i64 0,.int .i64 0,.int .i64 (aw s.l:Nat),.slice none 0 0]) (by simp [results,Tryd.results26,go_sem,q0,q1,q2,q3,q4,q5]) rfl ⟨GF.out,SF.out,_,rfl,_,rfl,NF.out⟩
end Go.Proofs.YtbeahnehjannpaaDoor
