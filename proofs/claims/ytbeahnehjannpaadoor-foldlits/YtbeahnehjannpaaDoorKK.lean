/- Parts of the proof. -/
import Derived.Test.YtbeahnehjannpaaDoorKp
import Derived.Test.YtbeahnehjannpaaDoorKT
import Derived.BigQuiet
import Derived.Deep.RegionHeld3
import Derived.Deep.CutBlock
import Derived.Test.YtbeahnehjannpaaDoorKI
import Derived.Test.YtbeahnehjannpaaDoorKZ
namespace Go.Proofs.YtbeahnehjannpaaDoor
open Go.RowKit
set_option linter.unusedVariables false
set_option linter.unusedSimpArgs false
theorem mo_rows:∀ f ks s,(rowsX f ks s).2.l.length≤s.l.length
 | 0,ks,s=>Nat.le_refl _
 | f+1,ks,s=>by
  unfold rowsX
  split
  ·split
   ·exact Nat.le_refl _
   ·exact Nat.le_trans (mo_rows f _ _) (Nat.le_trans (len_want _ _) (Nat.le_trans (len_lit _) (Nat.le_trans (len_want _ _) (len_lit s))))
  ·exact Nat.le_refl _
theorem len_tabE (r:List Tr × Sp):(tabE r).2.l.length≤r.2.l.length:=by
 unfold tabE
 refine Nat.le_trans (len_want _ _) (Nat.le_trans (len_lit _) (Nat.le_trans (len_want _ _) ?_))
 show (if r.2.ok && r.1.length==32 then r.2.lim else r.2).l.length≤_
 split
 ·exact Nat.le_refl _
 ·exact Nat.le_refl _
theorem rdecl_any {p b c:Nat} {ws:List Wo} (w:World) (s:Sp) (h:Sw w p b c ws 0 s) :
  Calls Tryd.prog 26 #[.pointer (some ⟨p,0,none⟩)] w fun e w'=>Rn w w' p b c ws 0 e (declX (recR 40).2 s):=by
 have hE:=(rrec (p:=p) (b:=b) (c:=c) (ws:=ws) 40 (Nat.le_refl _) 0 rfl).2
 cases y1:s.is sInput with
 | true=>rw [show declX (recR 40).2 s=(.nd sInput s.nx.nm.1 s.nx.nm.2.kd.1 0 (aw s.l) [],s.nx.nm.2.kd.2.want sSemi) from by unfold declX;rw [y1];rfl];exact rdecl_input h y1 _ _ rfl rfl
 | false =>
 cases y2:s.is sRule with
 | true=>rw [show declX (recR 40).2 s=(.nd sRule s.nx.nm.1 s.nx.nm.2.kd.1 0 (aw s.l) [((recR 40).2 (s.nx.nm.2.kd.2.want sEq)).1],((recR 40).2 (s.nx.nm.2.kd.2.want sEq)).2.want sSemi) from by unfold declX;rw [y1,y2];rfl];exact rdecl_rule h _ hE y1 y2 _ _ _ rfl rfl rfl
 | false =>
 cases y3:s.is sTable with
 | true=>rw [show declX (recR 40).2 s=(.nd sTable s.nx.nm.1 s.nx.nm.2.kd.2.kd.1 (s.nx.nm.2.kd.1:Nat) (aw s.l) (tabE (rowsX 33 [] (s.nx.nm.2.kd.2.kd.2.want sBrace))).1,(tabE (rowsX 33 [] (s.nx.nm.2.kd.2.kd.2.want sBrace))).2) from by unfold declX;rw [y1,y2,y3];rfl];exact rdecl_table h y1 y2 y3 _ _ _ rfl rfl rfl _ rfl
 | false=>rw [show declX (recR 40).2 s=(.nd ⟨#[]⟩ ⟨#[]⟩ 0 0 (aw s.l) [],s.fail) from by unfold declX;rw [y1,y2,y3];rfl];exact rdecl_no h y1 y2 y3
theorem decl_less (E:Ax) (hE:Mo E) (s:Sp) (h0:0<s.l.length):(declX E s).2.ok=false∨(declX E s).2.l.length<s.l.length:=by
 have n1:=nx_len h0
 unfold declX
 split
 ·right;exact Nat.lt_of_le_of_lt (Nat.le_trans (len_want _ _) (Nat.le_trans (len_kd _) (len_nm _))) n1
 split
 ·right;exact Nat.lt_of_le_of_lt (Nat.le_trans (len_want _ _) (Nat.le_trans (hE _) (Nat.le_trans (len_want _ _) (Nat.le_trans (len_kd _) (len_nm _))))) n1
 split
 ·right
  refine Nat.lt_of_le_of_lt ?_ n1
  exact Nat.le_trans (len_tabE (rowsX 33 [] (s.nx.nm.2.kd.2.kd.2.want sBrace))) (Nat.le_trans (mo_rows _ _ _) (Nat.le_trans (len_want _ _) (Nat.le_trans (len_kd _) (Nat.le_trans (len_kd _) (len_nm _)))))
 ·left;rfl
theorem cut_finX (s:ByteArray):∀ (m a:Nat) (R:List Wd),s.size - a≤m→a≤s.size→cutF s a=(R,none)→R.length≤s.size - a+1∧∃ (Q:List Wd) (b:Nat),R=Q ++ [(0,0,0,b)]:=by
 intro m
 induction m with
 | zero =>
  intro a R hm hle hc
  rw [cutF_end (by omega)] at hc
  injection hc with hc _
  subst hc
  exact ⟨by simp,[],a,rfl⟩
 | succ m ih =>
  intro a R hm hle hc
  rcases Nat.lt_or_ge a s.size with ha | ha
  ·rw [cutF_cons ha] at hc
   by_cases b:isBl (bt s a)=true
   ·rw [if_pos b] at hc
    obtain ⟨i1,i2⟩:=ih (a+1) R (by omega) (by omega) hc
    exact ⟨by omega,i2⟩
   ·rw [if_neg b] at hc
    by_cases d:(bt s a).toNat=35
    ·rw [if_pos d] at hc
     have c1:1≤runC (tl s a):=by rw [tl_cons ha];unfold runC;rw [if_neg (by omega)];omega
     have c2:=runC_le (tl s a)
     rw [tl_len] at c2
     obtain ⟨i1,i2⟩:=ih _ R (by omega) (by omega) hc
     exact ⟨by omega,i2⟩
    ·rw [if_neg d] at hc
     cases hw:wd (tl s a) with
     | none=>rw [hw] at hc;cases hc
     | some y =>
      obtain ⟨k,n,v⟩:=y
      rw [hw] at hc
      dsimp only at hc
      obtain ⟨n1,n2⟩:=wd_len hw
      rw [tl_len] at n2
      cases hr:cutF s (a+n) with
      | mk r e =>
       rw [hr] at hc
       cases e with
       | some b=>cases hc
       | none =>
        injection hc with hc _
        subst hc
        obtain ⟨i1,Q,b,i2⟩:=ih _ r (by omega) (by omega) hr
        exact ⟨by simp;omega,(k,n,v,a) :: Q,b,by rw [i2];rfl⟩
  ·rw [cutF_end ha] at hc
   injection hc with hc _
   subst hc
   exact ⟨by simp,[],a,rfl⟩
theorem Below.put6X {a b:World} {q:Nat} {B:Nat} (h:Below B a b) (hq:B≤q) (v0 v1 v2 v3 v4 v5:Value):Below B a ((((((b.setCell ⟨q,0,none⟩ v0).setCell ⟨q,1,none⟩ v1).setCell ⟨q,2,none⟩ v2).setCell ⟨q,3,none⟩ v3).setCell ⟨q,4,none⟩ v4).setCell ⟨q,5,none⟩ v5) :=
 (((((h.setCell (p:=⟨q,0,none⟩) hq v0).setCell (p:=⟨q,1,none⟩) hq v1).setCell (p:=⟨q,2,none⟩) hq v2).setCell (p:=⟨q,3,none⟩) hq v3).setCell (p:=⟨q,4,none⟩) hq v4).setCell (p:=⟨q,5,none⟩) hq v5
theorem Pr.new {w:World} {s:ByteArray} {v:Value} {R:List Wd} {a:Option Addr} {c b:Nat} (h:Rd4 w v s R a c b) (hb:b<w.heap.size) (hl:R.length≤9000) (hf:∃ (Q:List Wd) (x:Nat),R=Q ++ [(0,0,0,x)]) (t:TypeId) :
  Pr (w.alloc (.cells #[.slice (some ⟨b,0,none⟩) (R.map (wo s)).length c,.int .i64 0,.int .i64 (-1),.bool false,.int .i64 0] t)) w.heap.size b c (R.map (wo s)) 0 0 none false:=by
 have st:Below w.heap.size w (w.alloc (.cells #[.slice (some ⟨b,0,none⟩) (R.map (wo s)).length c,.int .i64 0,.int .i64 (-1),.bool false,.int .i64 0] t)):=(Below.refl _ _).alloc (Nat.le_refl _) _
 have at_:∀ i x,(R.map (wo s))[i]?=some x→∃ y,R[i]?=some y∧wo s y=x:=fun i x e=>by
  rw [List.getElem?_map] at e
  exact Option.map_eq_some_iff.1 e
 obtain ⟨Q,z,e⟩:=hf
 refine ⟨by simp,by simp,by simp;rfl,by simp,by simp,fun i=>by simp,?_,?_,?_,?_,by omega,by rw [e];simp,by simpa using hl,?_⟩
 ·intro i x q;obtain ⟨y,q1,q2⟩:=at_ i x q;rw [st.cell (p:=⟨b,_,none⟩) hb,h.c0 i y q1,← q2];rfl
 ·intro i x q;obtain ⟨y,q1,q2⟩:=at_ i x q;rw [st.cell (p:=⟨b,_,none⟩) hb,h.c1 i y q1,← q2];rfl
 ·intro i x q;obtain ⟨y,q1,q2⟩:=at_ i x q;rw [st.cell (p:=⟨b,_,none⟩) hb,h.c2 i y q1,← q2];rfl
 ·intro i x q;obtain ⟨y,q1,q2⟩:=at_ i x q;rw [st.cell (p:=⟨b,_,none⟩) hb,h.c3 i y q1,← q2];rfl
 ·intro x q
  obtain ⟨y,q1,q2⟩:=at_ _ x q
  rw [e] at q1
  simp at q1
  subst q1
  rw [← q2]
  refine ⟨rfl,?_⟩
  exact ext_nil s z
structure Tp (w wr:World) (p b c:Nat) (ws:List Wo) (q at_:Nat) (sl:Value) (ts:List Tr) (s:Sp):Prop where
 hs:Sw wr p b c ws 0 s
 bl:Below w.heap.size w wr
 hb:B6 wr w.heap.size (.string ⟨#[]⟩) (.string ⟨#[]⟩) (.int .i64 0) (.int .i64 0) (.int .i64 0) (.slice none 0 0)
 nb:B6 wr q (.string ⟨#[115,116,97,116,117,116,101]⟩) (.string ⟨#[]⟩) (.int .i64 0) (.int .i64 0) (.int .i64 (at_:Nat)) sl
 ky:Ky wr (q+1) sl ts
 rb:w.heap.size<b
 bp:b<p
 pq:p<q
theorem Tp.next {w wr w':World} {p b c:Nat} {ws:List Wo} {q at_:Nat} {sl:Value} {ts:List Tr} {s:Sp} (h:Tp w wr p b c ws q at_ sl ts s) (k:Below wr.heap.size wr w'):Tp w w' p b c ws q at_ sl ts s :=
 ⟨h.hs.next k,nextB h.bl k,h.hb.next k,h.nb.next k,h.ky.next k,h.rb,h.bp,h.pq⟩
theorem below_gr {w w1 w2:World} {p:Nat} (h:Below w.heap.size w w1) (k:Gr w1 w2 p) (hp:w.heap.size≤p):Below w.heap.size w w2 :=
 ⟨k.os.trans h.os,k.tape.trans h.tape,k.output.trans h.output,Nat.le_trans h.size k.size,fun i hi=>(k.block i (Nat.lt_of_lt_of_le hi h.size) (fun e=>by injection e with e;omega)).trans (h.block i hi)⟩
theorem Tp.gr {w wr w':World} {p b c:Nat} {ws:List Wo} {q at_:Nat} {sl:Value} {ts:List Tr} {s s':Sp} (h:Tp w wr p b c ws q at_ sl ts s) (hs:Sw w' p b c ws 0 s') (k:Gr wr w' p):Tp w w' p b c ws q at_ sl ts s':=by
 have a1:=h.rb
 have a2:=h.bp
 have a3:=h.pq
 exact ⟨hs,below_gr h.bl k (by omega),h.hb.gr k (by omega),h.nb.gr k (by omega),h.ky.gr k (by omega),h.rb,h.bp,h.pq⟩
theorem Tp.off {w wr:World} {p b c:Nat} {ws:List Wo} {q at_:Nat} {sl:Value} {ts:List Tr} {s:Sp} (h:Tp w wr p b c ws q at_ sl ts s) {x:Nat} (hx:x≤q):some x≠sl.ownBlock:=fun e=>by
 have:=(h.ky.lt x e.symm).1
 omega
theorem Tp.kid {w wr w':World} {p b c:Nat} {ws:List Wo} {q at_:Nat} {sl v:Value} {ts ts':List Tr} {s:Sp} (h:Tp w wr p b c ws q at_ sl ts s) (g2:wr.grownBy w' sl.ownBlock) (o2:Ky w' (q+1) v ts'):Tp w (w'.setCell ⟨q,5,none⟩ v) p b c ws q at_ v ts' s:=by
 have a1:=h.rb
 have a2:=h.bp
 have a3:=h.pq
 have hs:Sw w' p b c ws 0 s:=h.hs.keep (g2.block p h.hs.pl (h.off (by omega))) (g2.block b h.hs.bl (h.off (by omega)))
 have bl:Below w.heap.size w w':=⟨g2.os.trans h.bl.os,g2.tape.trans h.bl.tape,g2.output.trans h.bl.output,Nat.le_trans h.bl.size g2.size,fun i hi=>(g2.block i (Nat.lt_of_lt_of_le hi h.bl.size) (h.off (by omega))).trans (h.bl.block i hi)⟩
 exact ⟨hs.put (by omega) (by omega) _,bl.setCell (p:=⟨q,5,none⟩) (by show _≤q;omega) _,(h.hb.grown g2 (h.off (by omega))).put (by omega) _,(h.nb.grown g2 (h.off (by omega))).set5 _,o2.put (by omega) _,h.rb,h.bp,h.pq⟩
theorem wp_addM {w : World} {o : Oper} {a : Act} {K : Act → World → Prop} {Q : Exit → Act → World → Prop} (sl x : Operand)
    (ho : o.op = .call { callee := .builtin .append, args := #[sl, x], argTypes := #[29, 29] }) (base : Nat) (v : Value) (ts : List Tr) (t : Tr) (vk : Value) (hs : a.eval sl = v) (hown : Ky w base v ts)
    (b : Nat) (hx : a.eval x = .slice (some ⟨b, 0, none⟩) 1 1) (hc : NC w b 0 t vk) (hk : Nd w (fun g => base ≤ g ∧ some g ≠ v.ownBlock) vk t.kids) (hl : ts.length ≤ 100000) (hbase : base ≤ w.heap.size)
    (h : ∀ v' w', Ky w' base v' (ts ++ [t]) → w.grownBy w' v.ownBlock → K (a.put o.dst v') w') : o.wp Tryd.prog a w K Q := by
  obtain ⟨i0, hi, hz0, hz1, hz2⟩ := info_parts nodeInfoR
  obtain ⟨R, e, ow, n, z⟩ := hown.ex
  have rl : R.length = ts.length := by rw [← e]; simp
  obtain ⟨v', w', hr, h2, h3, h4⟩ := run_app (P := Tryd.prog) w base 29 o.type 31 i0 _ 6 80 Tryd.underlying29 hi hz0 hz1 hz2 rfl (by decide) v R.length (R.flatMap nC) ow ⟨b, 0, none⟩ 1 (nC (t, vk)) rfl (fun j u hu => by
      have : w.cell? ⟨b, j, none⟩ = some u := by
        match j, hu with
        | 0, hu => simp [nC] at hu; rw [← hu]; exact hc.e0
        | 1, hu => simp [nC] at hu; rw [← hu]; exact hc.e1
        | 2, hu => simp [nC] at hu; rw [← hu]; exact hc.e2
        | 3, hu => simp [nC] at hu; rw [← hu]; exact hc.e3
        | 4, hu => simp [nC] at hu; rw [← hu]; exact hc.e4
        | 5, hu => simp [nC] at hu; rw [← hu]; exact hc.e5
        | j + 6, hu => simp [nC] at hu
      cases j with
      | zero => simpa [Addr.add] using this
      | succ j => simpa [Addr.add] using this) (fun u hu => by
      simp [nC] at hu
      rcases hu with rfl | rfl | rfl | rfl | rfl | rfl <;> first | rfl | exact nd_one hk) (by unfold maxLen; omega) (by omega) hbase
  unfold Oper.wp execOp
  simp only [ho, resolve, invoke, builtin, Sem.run_bind, Sem.run_pure, Result.andThen_ok, List.map_toArray, List.map_cons, List.map_nil, hs, hx, hr]
  exact (h v' w' (Ky.add e n hk h2 h3 h4) h3)
theorem wp_addN {w : World} {o : Oper} {a : Act} {K : Act → World → Prop} {Q : Exit → Act → World → Prop} (sl x : Operand)
    (ho : o.op = .call { callee := .builtin .append, args := #[sl, x], argTypes := #[26, 26] }) (base : Nat) (v : Value) (ts : List Tr) (t : Tr) (vk : Value) (hs : a.eval sl = v) (hown : Kr w base v ts)
    (b : Nat) (hx : a.eval x = .slice (some ⟨b, 0, none⟩) 1 1) (hc : NC w b 0 t vk) (hk : Nd w (fun g => base ≤ g ∧ some g ≠ v.ownBlock) vk t.kids) (hl : ts.length ≤ 100000) (hbase : base ≤ w.heap.size)
    (h : ∀ v' w', Kr w' base v' (ts ++ [t]) → w.grownBy w' v.ownBlock → K (a.put o.dst v') w') : o.wp Tryd.prog a w K Q := by
  obtain ⟨i0, hi, hz0, hz1, hz2⟩ := info_parts nodeInfo
  obtain ⟨R, e, ow, n, z⟩ := hown.ex
  have rl : R.length = ts.length := by rw [← e]; simp
  obtain ⟨v', w', hr, h2, h3, h4⟩ := run_app (P := Tryd.prog) w base 26 o.type 28 i0 _ 6 80 Tryd.underlying26 hi hz0 hz1 hz2 rfl (by decide) v R.length (R.flatMap nC) ow ⟨b, 0, none⟩ 1 (nC (t, vk)) rfl (fun j u hu => by
      have : w.cell? ⟨b, j, none⟩ = some u := by
        match j, hu with
        | 0, hu => simp [nC] at hu; rw [← hu]; exact hc.e0
        | 1, hu => simp [nC] at hu; rw [← hu]; exact hc.e1
        | 2, hu => simp [nC] at hu; rw [← hu]; exact hc.e2
        | 3, hu => simp [nC] at hu; rw [← hu]; exact hc.e3
        | 4, hu => simp [nC] at hu; rw [← hu]; exact hc.e4
        | 5, hu => simp [nC] at hu; rw [← hu]; exact hc.e5
        | j + 6, hu => simp [nC] at hu
      cases j with
      | zero => simpa [Addr.add] using this
      | succ j => simpa [Addr.add] using this) (fun u hu => by
      simp [nC] at hu
      rcases hu with rfl | rfl | rfl | rfl | rfl | rfl <;> first | rfl | exact nd_one hk) (by unfold maxLen; omega) (by omega) hbase
  unfold Oper.wp execOp
  simp only [ho, resolve, invoke, builtin, Sem.run_bind, Sem.run_pure, Result.andThen_ok, List.map_toArray, List.map_cons, List.map_nil, hs, hx, hr]
  exact (h v' w' (Kr.add e n hk h2 h3 h4) h3)
def PsP (t:ByteArray) (w:World) (e:Ending) (w':World):Prop:=Below w.heap.size w w' ∧
 match parseX t with
 | .inl T=>∃ v,e=.returned (.tuple #[v,.int .i64 (-1),.bool false])∧Nv w' (fun g=>w.heap.size≤g) v T
 | .inr (a,d)=>e=.returned (.tuple #[.agg #[.string ⟨#[]⟩,.string ⟨#[]⟩,.int .i64 0,.int .i64 0,.int .i64 0,.slice none 0 0],.int .i64 (a:Nat),.bool d])
theorem declsX_no {E:Ax} {f:Nat} {ts:List Tr} {s:Sp} (h:(s.ok && kw s.l != 0)=false):declsX E f ts s=(ts,s):=by
 cases f with
 | zero=>rfl
 | succ f=>unfold declsX;rw [h];rfl
theorem declsX_on {E:Ax} {f:Nat} {ts:List Tr} {s:Sp} (hf:0<f) (h:(s.ok && kw s.l != 0)=true):declsX E f ts s=declsX E (f - 1) (ts ++ [(declX E s).1]) (declX E s).2:=by
 cases f with
 | zero=>omega
 | succ f=>rw [declsX,h];rfl
def msX (s:Sp):Nat:=if s.ok then s.l.length+1 else 0
set_option maxRecDepth 100000 in
set_option maxHeartbeats 4000000 in
theorem rparse_bad (t:ByteArray) (w:World) (hs:t.size≤3000) (R0:List Wd) (bd0:Nat) (hx:cutF t 0=(R0,some bd0)):Calls Tryd.prog 14 #[.string t] w fun e w'=>PsP t w e w':=by
 have HB:=hid (B6.new w 31 (.string ⟨#[]⟩) (.string ⟨#[]⟩) (.int .i64 0) (.int .i64 0) (.int .i64 0) (.slice none 0 0))
 have HS0:Hid (Below w.heap.size w (w.alloc (.cells #[.string ⟨#[]⟩,.string ⟨#[]⟩,.int .i64 0,.int .i64 0,.int .i64 0,.slice none 0 0] 31))):=(Below.refl _ _).alloc (Nat.le_refl _) _
 have WS:=hid (show w.heap.size<(w.alloc (.cells #[.string ⟨#[]⟩,.string ⟨#[]⟩,.int .i64 0,.int .i64 0,.int .i64 0,.slice none 0 0] 31)).heap.size from by simp)
 have CC:=hid (fun w=>show Calls Tryd.prog 25 #[.string t] w fun e w'=>Below w.heap.size w w'∧e=.returned (.tuple #[.slice none 0 0,.int .i64 (bd0:Nat)]) from (YCut_any t w hs).mono fun e w' h=>by
  unfold CutY at h
  rw [hx] at h
  exact h)
 have PX:=hid (show parseX t=.inr (bd0,false) from by unfold parseX;rw [hx])
 have z:(0:Int)≤(bd0:Int):=by omega
 clear hx
 go_enter Tryd.func14,Tryd.ntmps14
 go_upto_region 1 with fail
 generalize World.alloc w _=w1 at *
 have C1:=hid (CC.out w1)
 go_upto_region 3 with (go_at_call 25;with_reducible refine Calls.mono C1.out ?_;rintro e w2 ⟨b2,rfl⟩;replace HB:=hid (HB.out.next b2);replace HS0:=hid (nextB HS0.out b2);clear b2 C1)
 obtain ⟨h0,h1,h2,h3,h4,h5,hz⟩:=HB.out
 have BF:=hid (HB.out.sets (.string ⟨#[]⟩) (.string ⟨#[]⟩) (.int .i64 0) (.int .i64 0) (.int .i64 0) (.slice none 0 0))
 have BL:=hid ((((((HS0.out.setCell (p:=⟨w.heap.size,0,none⟩) (Nat.le_refl _) (.string ⟨#[]⟩)).setCell (p:=⟨w.heap.size,1,none⟩) (Nat.le_refl _) (.string ⟨#[]⟩)).setCell (p:=⟨w.heap.size,2,none⟩) (Nat.le_refl _) (.int .i64 0)).setCell (p:=⟨w.heap.size,3,none⟩) (Nat.le_refl _) (.int .i64 0)).setCell (p:=⟨w.heap.size,4,none⟩) (Nat.le_refl _) (.int .i64 0)).setCell (p:=⟨w.heap.size,5,none⟩) (Nat.le_refl _) (.slice none 0 0))
 go_wp2_with fail
 generalize World.setCell _ ⟨w.heap.size,5,none⟩ _=wf at *
 obtain ⟨q0,q1,q2,q3,q4,q5,_⟩:=BF.out
 exact bodyPost_ret (v:=.tuple #[.agg #[.string ⟨#[]⟩,.string ⟨#[]⟩,.int .i64 0,.int .i64 0,.int .i64 0,.slice none 0 0],.int .i64 (bd0:Nat),.bool false]) (by simp [results,Tryd.results14,go_sem,q0,q1,q2,q3,q4,q5]) rfl  (by unfold PsP;rw [PX.out];exact ⟨BL.out,rfl⟩)
set_option maxRecDepth 100000 in
set_option maxHeartbeats 4000000 in
theorem rparse_good (hD:∀ (p b c:Nat) (ws:List Wo) (w:World) (s:Sp),Sw w p b c ws 0 s→Calls Tryd.prog 26 #[.pointer (some ⟨p,0,none⟩)] w fun e w'=>Rn w w' p b c ws 0 e (declX (recR 40).2 s)) (hL:∀ s,0<s.l.length→(declX (recR 40).2 s).2.ok=false∨(declX (recR 40).2 s).2.l.length<s.l.length) (t:ByteArray) (w:World) (hs:t.size≤3000) (RW:List Wd) (hx:cutF t 0=(RW,none)):Calls Tryd.prog 14 #[.string t] w fun e w'=>PsP t w e w':=by
 have HB:=hid (B6.new w 31 (.string ⟨#[]⟩) (.string ⟨#[]⟩) (.int .i64 0) (.int .i64 0) (.int .i64 0) (.slice none 0 0))
 have HS0:Hid (Below w.heap.size w (w.alloc (.cells #[.string ⟨#[]⟩,.string ⟨#[]⟩,.int .i64 0,.int .i64 0,.int .i64 0,.slice none 0 0] 31))):=(Below.refl _ _).alloc (Nat.le_refl _) _
 have WS:=hid (show w.heap.size<(w.alloc (.cells #[.string ⟨#[]⟩,.string ⟨#[]⟩,.int .i64 0,.int .i64 0,.int .i64 0,.slice none 0 0] 31)).heap.size from by simp)
 have CC:=hid (fun w=>show Calls Tryd.prog 25 #[.string t] w fun e w'=>Below w.heap.size w w'∧∃ v,e=.returned (.tuple #[v,.int .i64 (-1)])∧Rw w' w.heap.size 58 t v RW from (YCut_any t w hs).mono fun e w' h=>by
  unfold CutY at h
  rw [hx] at h
  exact h)
 obtain ⟨cf1,cf2⟩:=cut_finX t _ 0 RW (Nat.le_refl _) (Nat.zero_le _) hx
 have LN:RW.length≤9000:=by omega
 have CF:=hid cf2
 have DH:=hid hD
 have LH:=hid hL
 clear hD hL
 have PX:=hid (show parseX t=parX (RW.map (wo t)) from by unfold parseX;rw [hx])
 obtain ⟨R,hR⟩:∃ R,PsP t w=R:=⟨_,rfl⟩
 have PR:=hid hR
 show Calls _ _ _ _ fun e w'=>PsP t w e w'
 clear cf1 cf2 hx hR
 go_enter Tryd.func14,Tryd.ntmps14
 go_upto_region 1 with fail
 generalize World.alloc w _=w1 at *
 have C1:=hid (CC.out w1)
 go_upto_region 4 with (go_at_call 25;with_reducible refine Calls.mono C1.out ?_;rintro e w2 ⟨b2,v,rfl,rw2⟩;replace HB:=hid (HB.out.next b2);replace HS0:=hid (nextB HS0.out b2);have RWH:=hid rw2;have B2:=hid b2;clear b2 C1 rw2)
 obtain ⟨a0,cc,bb,rd⟩:=Rd4.of RWH.out
 have pos:0<RW.length:=by obtain ⟨Q,x,e⟩:=CF.out;rw [e];simp
 have RDH:=hid rd
 have ev:=rd.v
 have ea:=rd.a pos
 subst ea
 have b2l:bb<w2.heap.size:=by obtain ⟨y,hy⟩:∃ y,RW[0]?=some y:=⟨_,List.getElem?_eq_getElem pos⟩;exact World.block_lt_of_cell? _ _ (rd.c0 0 y hy)
 subst ev
 clear rd
 have PN:=hid (Pr.new RDH.out b2l LN CF.out 56)
 have wl:RW.length=(RW.map (wo t)).length:=by simp
 rw [wl]
 have bge:w.heap.size<bb:=by
  rcases World.ownsRow.lt RWH.out bb rfl with ⟨z,_⟩
  have:=WS.out
  omega
 have AL4:=hid (show Below w2.heap.size w2 (w2.alloc (.cells #[.slice (some ⟨bb,0,none⟩) (RW.map (wo t)).length cc,.int .i64 0,.int .i64 (-1),.bool false,.int .i64 0] 56)) from (Below.refl _ _).alloc (Nat.le_refl _) _)
 have wpos:0<(RW.map (wo t)).length:=by rw [List.length_map];exact pos
 have wl9:(RW.map (wo t)).length≤9000:=by rw [List.length_map];exact LN
 clear wl RDH RWH CF LN pos
 generalize RW.map (wo t)=ws at *
 go_upto_region 5 with fail
 replace HB:=hid (HB.out.next AL4.out)
 replace HS0:=hid (nextB HS0.out AL4.out)
 clear AL4 B2
 generalize World.alloc w2 _=w3 at *
 generalize w2.heap.size=p at *
 obtain ⟨x0,hx0⟩:∃ x,ws[0]?=some x:=⟨_,List.getElem?_eq_getElem wpos⟩
 have ax:aw ws=x0.a:=by
  cases ws with
  | nil=>simp at wpos
  | cons y l=>simp at hx0;subst hx0;rfl
 have d3:w3.cell? ⟨bb,3,none⟩=some (.int .i64 (aw ws:Nat)):=by have:=PN.out.w3 0 x0 hx0;rw [ax];simpa using this
 clear hx0 ax
 have wp0:(0:Int)<(ws.length:Int):=by omega
 go_wp2_with fail
 have AL5:=hid (show Below w3.heap.size w3 (w3.alloc (.cells #[.string ⟨#[115,116,97,116,117,116,101]⟩,.string ⟨#[]⟩,.int .i64 0,.int .i64 0,.int .i64 (aw ws:Nat),.slice none 0 0] 31)) from (Below.refl _ _).alloc (Nat.le_refl _) _)
 have TP:=hid (show Tp w (w3.alloc (.cells #[.string ⟨#[115,116,97,116,117,116,101]⟩,.string ⟨#[]⟩,.int .i64 0,.int .i64 0,.int .i64 (aw ws:Nat),.slice none 0 0] 31)) p bb cc ws w3.heap.size (aw ws) (.slice none 0 0) [] ⟨ws,none,false⟩ from ⟨⟨0,rfl,PN.out.next AL5.out⟩,nextB HS0.out AL5.out,HB.out.next AL5.out,B6.new w3 31 _ _ _ _ _ _,Ky.nil _ _,bge,b2l,PN.out.pl⟩)
 clear AL5 PN HB HS0 WS d3 wp0
 generalize World.alloc w3 _=w4 at *
 generalize w3.heap.size=q at *
 obtain ⟨RR,hRR⟩:∃ RR,declsX (recR 40).2 ws.length [] ⟨ws,none,false⟩=RR:=⟨_,rfl⟩
 have RH:=hid hRR
 have PY:=hid (show parX ws=(match RR.2.b with | none=>.inl (.nd sStatute ⟨#[]⟩ 0 0 (aw ws) RR.1) | some a=>.inr (a,RR.2.e)) from by unfold parX;rw [hRR];rfl)
 clear hRR
 go_loopg [44] (ws.length+1) (fun g ov wr=>∃ (f:Nat) (ts:List Tr) (sa:Option Addr) (sc:Nat) (z:Sp),g=msX z∧ts.length≤9001∧Hid (Tp w wr p bb cc ws q (aw ws) (.slice sa ts.length sc) ts z)∧Hid (declsX (recR 40).2 f ts z=RR∧(z.ok=true→z.l.length≤f∧ts.length+z.l.length≤9000)))
 case atStart=>exact ⟨ws.length,[],_,_,⟨ws,none,false⟩,rfl,by decide,TP,⟨RH.out,fun _=>⟨Nat.le_refl _,by simpa using wl9⟩⟩⟩
 case round =>
  clear TP RH
  obtain ⟨f,ts,sa,sc,z,rfl,l32,TP,RI⟩:=hrel
  obtain ⟨k,el,qx⟩:=TP.out.hs.ex
  have c0:=qx.c0
  have c1:=qx.c1
  have c2:=qx.c2
  obtain ⟨x,cu⟩:=qx.cur
  have d0:=cu.d0
  have kx:kw z.l=x.k:=by rw [el,cu.dr];rfl
  have l1:(k:Int)<(ws.length:Int):=by have:=qx.lt;omega
  have l2:ws.length≤9000:=qx.len
  clear cu el qx
  cases zb:z.b with
  | some a =>
   rw [zb] at c2
   have c2':wr.cell? ⟨p,2,none⟩=some (.int .i64 (a:Nat)):=c2
   have za:¬ (a:Int)<0:=by omega
   have dz:decide ((a:Int)<0)=false:=decide_eq_false za
   have RZ:=hid (show RR=(ts,z) from by rw [← RI.out.1];exact declsX_no (by unfold Sp.ok;rw [zb];rfl))
   have ZB:=hid zb
   clear c2 zb
   go_upto_region 6 with fail
   go_quiet (fail)
   go_upto_region 9 with fail
   replace TP:=hid (TP.out.next (drewN_below wr nq))
   clear c0 c1 c2' d0 dz
   generalize wr.drewN nq=w5 at *
   obtain ⟨k9,el9,q9⟩:=TP.out.hs.ex
   have b2:=q9.c2
   rw [ZB.out] at b2
   have b2':w5.cell? ⟨p,2,none⟩=some (.int .i64 (a:Nat)):=b2
   have b3:w5.cell? ⟨p,3,none⟩=some (.bool z.e):=q9.c3
   have rp:w.heap.size≠p:=by have:=TP.out.rb;have:=TP.out.bp;omega
   clear b2 el9 q9
   refine wp_region_held_drew (S:=(fun W=>W.cell? ⟨p,2,none⟩=some (.int .i64 (a:Nat))∧W.cell? ⟨p,3,none⟩=some (.bool z.e))) (by kernel_rfl) ⟨b2',b3⟩ (fun hHeld=>?_)
   have TP6:=hid (TP.out.next (Below.refl _ _).drew)
   clear TP
   generalize w5.drew=w6 at *
   obtain ⟨h0,h1,h2,h3,h4,h5,hz⟩:=TP6.out.hb
   refine take2 rfl (i:=0) (v:=(.agg #[.string ⟨#[]⟩,.string ⟨#[]⟩,.int .i64 0,.int .i64 0,.int .i64 0,.slice none 0 0])) (d:=57) rfl rfl (by kernel_rfl) (by kernel_rfl) (by kernel_rfl) (fun _ _ _ h=>h) (Or.inl ⟨by rfl,?_⟩) hHeld ?_
   ·(intro W hW;(try dsimp only at hW);go_simp)
   try simp only [Act.put,List.setIfInBounds_toArray,List.set_cons_zero,List.set_cons_succ]
   refine take2 rfl (i:=1) (v:=(.pointer (some ⟨p,0,none⟩))) (d:=58) rfl rfl (by kernel_rfl) (by kernel_rfl) (by kernel_rfl) (fun _ _ _ h=>h) (Or.inl ⟨by rfl,?_⟩) hHeld ?_
   ·(intro W hW;(try dsimp only at hW);go_simp)
   try simp only [Act.put,List.setIfInBounds_toArray,List.set_cons_zero,List.set_cons_succ]
   refine take2 rfl (i:=2) (v:=(.pointer (some ⟨p,0,none⟩))) (d:=59) rfl rfl (by kernel_rfl) (by kernel_rfl) (by kernel_rfl) (fun _ _ _ h=>h) (Or.inl ⟨by rfl,?_⟩) hHeld ?_
   ·(intro W hW;(try dsimp only at hW);go_simp)
   try simp only [Act.put,List.setIfInBounds_toArray,List.set_cons_zero,List.set_cons_succ]
   refine take2 rfl (i:=3) (v:=(.pointer (some ⟨p,2,none⟩))) (d:=60) rfl rfl (by kernel_rfl) (by kernel_rfl) (by kernel_rfl) (fun _ _ _ h=>h) (Or.inl ⟨by rfl,?_⟩) hHeld ?_
   ·(intro W hW;(try dsimp only at hW);go_simp)
   try simp only [Act.put,List.setIfInBounds_toArray,List.set_cons_zero,List.set_cons_succ]
   refine take2 rfl (i:=4) (v:=(.int .i64 (a:Nat))) (d:=61) rfl rfl (by kernel_rfl) (by kernel_rfl) (by kernel_rfl) (fun _ _ _ h=>h) (Or.inl ⟨by rfl,?_⟩) hHeld ?_
   ·(intro W hW;(try dsimp only at hW);go_simp)
   try simp only [Act.put,List.setIfInBounds_toArray,List.set_cons_zero,List.set_cons_succ]
   refine take2 rfl (i:=5) (v:=(.pointer (some ⟨p,0,none⟩))) (d:=62) rfl rfl (by kernel_rfl) (by kernel_rfl) (by kernel_rfl) (fun _ _ _ h=>h) (Or.inl ⟨by rfl,?_⟩) hHeld ?_
   ·(intro W hW;(try dsimp only at hW);go_simp)
   try simp only [Act.put,List.setIfInBounds_toArray,List.set_cons_zero,List.set_cons_succ]
   refine take2 rfl (i:=6) (v:=(.pointer (some ⟨p,0,none⟩))) (d:=63) rfl rfl (by kernel_rfl) (by kernel_rfl) (by kernel_rfl) (fun _ _ _ h=>h) (Or.inl ⟨by rfl,?_⟩) hHeld ?_
   ·(intro W hW;(try dsimp only at hW);go_simp)
   try simp only [Act.put,List.setIfInBounds_toArray,List.set_cons_zero,List.set_cons_succ]
   refine take2 rfl (i:=7) (v:=(.pointer (some ⟨p,3,none⟩))) (d:=64) rfl rfl (by kernel_rfl) (by kernel_rfl) (by kernel_rfl) (fun _ _ _ h=>h) (Or.inl ⟨by rfl,?_⟩) hHeld ?_
   ·(intro W hW;(try dsimp only at hW);go_simp)
   try simp only [Act.put,List.setIfInBounds_toArray,List.set_cons_zero,List.set_cons_succ]
   refine take2 rfl (i:=8) (v:=(.bool z.e)) (d:=65) rfl rfl (by kernel_rfl) (by kernel_rfl) (by kernel_rfl) (fun _ _ _ h=>h) (Or.inl ⟨by rfl,?_⟩) hHeld ?_
   ·(intro W hW;(try dsimp only at hW);go_simp)
   try simp only [Act.put,List.setIfInBounds_toArray,List.set_cons_zero,List.set_cons_succ]
   refine wpAnyH_ready (rs:=[9]) (by kernel_rfl) (by simp) ?_
   refine cons2 rfl rfl (fun K9 hK=>?_)
   go_simp
   refine hK.out _ _ (⟨(cell_ne (by omega)).trans ((cell_ne (by omega)).trans ((cell_ne (by omega)).trans ((cell_ne (by omega)).trans ((cell_ne (by omega)).trans ((cell_ne (by omega)).trans hHeld.1))))),(cell_ne (by omega)).trans ((cell_ne (by omega)).trans ((cell_ne (by omega)).trans ((cell_ne (by omega)).trans ((cell_ne (by omega)).trans ((cell_ne (by omega)).trans hHeld.2)))))⟩) (fun hX=>?_)
   clear hK K9 hHeld
   have hHeld:=hX
   clear hX
   try simp only [Act.put,List.setIfInBounds_toArray,List.set_cons_zero,List.set_cons_succ]
   refine take2 rfl (i:=10) (v:=(.int .i64 (a:Nat))) (d:=3) rfl rfl (by kernel_rfl) (by kernel_rfl) (by kernel_rfl) (fun _ _ _ h=>h) (Or.inl ⟨by rfl,?_⟩) hHeld ?_
   ·(intro W hW;(try dsimp only at hW);go_simp)
   try simp only [Act.put,List.setIfInBounds_toArray,List.set_cons_zero,List.set_cons_succ]
   refine take2 rfl (i:=11) (v:=(.bool z.e)) (d:=4) rfl rfl (by kernel_rfl) (by kernel_rfl) (by kernel_rfl) (fun _ _ _ h=>h) (Or.inl ⟨by rfl,?_⟩) hHeld ?_
   ·(intro W hW;(try dsimp only at hW);go_simp)
   try simp only [Act.put,List.setIfInBounds_toArray,List.set_cons_zero,List.set_cons_succ]
   refine wpAnyH_done (by kernel_rfl) ?_ _
   have BF:=hid (TP6.out.hb.sets (.string ⟨#[]⟩) (.string ⟨#[]⟩) (.int .i64 0) (.int .i64 0) (.int .i64 0) (.slice none 0 0))
   have BL:=hid (Below.put6X TP6.out.bl (q:=w.heap.size) (Nat.le_refl _) (.string ⟨#[]⟩) (.string ⟨#[]⟩) (.int .i64 0) (.int .i64 0) (.int .i64 0) (.slice none 0 0))
   go_wp2_with fail
   generalize World.setCell _ ⟨w.heap.size,5,none⟩ _=wf at *
   obtain ⟨q0,q1,q2,q3,q4,q5,_⟩:=BF.out
   exact bodyPost_ret (v:=.tuple #[.agg #[.string ⟨#[]⟩,.string ⟨#[]⟩,.int .i64 0,.int .i64 0,.int .i64 0,.slice none 0 0],.int .i64 (a:Nat),.bool z.e]) (by simp [results,Tryd.results14,go_sem,q0,q1,q2,q3,q4,q5]) rfl  (by unfold PsP;rw [PX.out,PY.out,RZ.out];simp only [ZB.out];first | exact ⟨BL.out,rfl⟩ | exact ⟨BL.out,trivial⟩)
  | none =>
   rw [zb] at c2
   have c2':wr.cell? ⟨p,2,none⟩=some (.int .i64 (-1)):=c2
   have ZB:=hid zb
   clear c2 zb
   by_cases hk:x.k=0
   ·have hk':(x.k:Int)=0:=by omega
    have RZ:=hid (show RR=(ts,z) from by rw [← RI.out.1];exact declsX_no (by rw [kx,hk];simp))
    clear hk
    go_upto_region 6 with fail
    go_quiet (fail)
    go_upto_region 10 with fail
    replace TP:=hid (TP.out.next (drewN_below wr nq))
    clear c0 c1 c2' d0 hk'
    generalize wr.drewN nq=w5 at *
    have a1:=TP.out.rb
    have a2:=TP.out.bp
    have a3:=TP.out.pq
    obtain ⟨sm,hsm⟩:∃ sm,ts.length=sm:=⟨_,rfl⟩
    rw [hsm] at TP
    clear hsm
    obtain ⟨h0,h1,h2,h3,h4,h5,hz⟩:=TP.out.hb
    obtain ⟨v0,v1,v2,v3,v4,v5,vz⟩:=TP.out.nb
    have BF:=hid (TP.out.hb.sets (.string ⟨#[115,116,97,116,117,116,101]⟩) (.string ⟨#[]⟩) (.int .i64 0) (.int .i64 0) (.int .i64 (aw ws:Nat)) (.slice sa sm sc))
    have BL:=hid (Below.put6X TP.out.bl (q:=w.heap.size) (Nat.le_refl _) (.string ⟨#[115,116,97,116,117,116,101]⟩) (.string ⟨#[]⟩) (.int .i64 0) (.int .i64 0) (.int .i64 (aw ws:Nat)) (.slice sa sm sc))
    have NF:=hid (Nd.put6x (q:=w.heap.size) (m:=w.heap.size) TP.out.ky.nd (by omega) (by omega) (.string ⟨#[115,116,97,116,117,116,101]⟩) (.string ⟨#[]⟩) (.int .i64 0) (.int .i64 0) (.int .i64 (aw ws:Nat)) (.slice sa sm sc))
    go_wp2_with fail
    generalize World.setCell _ ⟨w.heap.size,5,none⟩ _=wf at *
    obtain ⟨q0,q1,q2,q3,q4,q5,_⟩:=BF.out
    exact bodyPost_ret (v:=.tuple #[.agg #[.string ⟨#[115,116,97,116,117,116,101]⟩,.string ⟨#[]⟩,.int .i64 0,.int .i64 0,.int .i64 (aw ws:Nat),.slice sa sm sc],.int .i64 (-1),.bool false]) (by simp [results,Tryd.results14,go_sem,q0,q1,q2,q3,q4,q5]) rfl  (by unfold PsP;rw [PX.out,PY.out,RZ.out];simp only [ZB.out];exact ⟨BL.out,_,rfl,_,rfl,NF.out⟩)
   ·have hk':¬ (x.k:Int)=0:=by omega
    have KN:=hid hk
    have dk:decide ((x.k:Int)=0)=false:=decide_eq_false hk'
    clear hk
    go_upto_region 6 with fail
    go_quiet (fail)
    go_upto_region 7 with fail
    replace TP:=hid (TP.out.next (drewN_below wr nq))
    clear c0 c1 c2' d0 hk' dk
    generalize wr.drewN nq=w5 at *
    have ZO:=hid (show z.ok=true from by unfold Sp.ok;rw [ZB.out];rfl)
    have FP:=hid (show 0<f from by have:=(RI.out.2 ZO.out).1;have:=TP.out.hs.len.1;omega)
    have LL:=hid (LH.out z TP.out.hs.len.1)
    have KW:=hid (show (z.ok && kw z.l != 0)=true from by rw [ZO.out,kx];simpa using KN.out)
    have RZ0:=hid (show declsX (recR 40).2 (f - 1) (ts ++ [(declX (recR 40).2 z).1]) (declX (recR 40).2 z).2=RR from by rw [← RI.out.1,declsX_on FP.out KW.out])
    obtain ⟨r,hr⟩:∃ r,declX (recR 40).2 z=r:=⟨_,rfl⟩
    have TP6:=hid (TP.out.next (Below.refl _ _).drew)
    have DC:=hid (DH.out p bb cc ws _ _ TP6.out.hs)
    have QL6:=hid TP6.out.nb.lt
    have OL:=hid (fun k e=>(TP6.out.ky.lt k e).2)
    rw [hr] at DC RZ0 LL
    have RZ:=RZ0
    clear RZ0 hr kx TP KW DH LH
    refine wp_region_held_drew (S:=(fun W=>True)) (by kernel_rfl) trivial (fun hHeld=>?_)
    generalize w5.drew=w6 at *
    have d5:=TP6.out.nb.c5
    refine take2 rfl (i:=0) (v:=(.pointer (some ⟨q,5,none⟩))) (d:=45) rfl rfl (by kernel_rfl) (by kernel_rfl) (by kernel_rfl) (fun _ _ _ h=>h) (Or.inl ⟨by rfl,?_⟩) hHeld ?_
    ·(intro W hW;(try dsimp only at hW);go_simp)
    try simp only [Act.put,List.setIfInBounds_toArray,List.set_cons_zero,List.set_cons_succ]
    refine take2 rfl (i:=2) (v:=(.pointer (some ⟨p,0,none⟩))) (d:=47) rfl rfl (by kernel_rfl) (by kernel_rfl) (by kernel_rfl) (fun _ _ _ h=>h) (Or.inl ⟨by rfl,?_⟩) hHeld ?_
    ·(intro W hW;(try dsimp only at hW);go_simp)
    try simp only [Act.put,List.setIfInBounds_toArray,List.set_cons_zero,List.set_cons_succ]
    refine wpAnyH_ready (rs:=[1,3]) (by kernel_rfl) (by simp) ?_
    refine cons22 rfl rfl rfl (fun K9 hK=>?_) (fun K9 hK=>?_)
    ·go_simp
     go_wp2_with fail
     refine hK.out _ _ (trivial) (fun hX=>?_)
     clear hK K9 hHeld
     have hHeld:=hX
     clear hX
     try simp only [Act.put,List.setIfInBounds_toArray,List.set_cons_zero,List.set_cons_succ]
     refine wpAnyH_ready (rs:=[3]) (by kernel_rfl) (by simp) ?_
     refine cons2 rfl rfl (fun K9 hK=>?_)
     go_simp
     refine Calls.mono (DC.out) ?_
     rintro e w7 h7
     obtain ⟨g7,s7,sa7,sm7,sc7,rfl,nv7⟩:=h7.parts
     have NV7:=hid nv7
     have TP7:=hid (TP6.out.gr s7 g7)
     clear h7 g7 s7 nv7
     have e5:=TP7.out.nb.c5
     go_wp2_with fail
     refine hK.out _ _ (trivial) (fun hX=>?_)
     clear hK K9 hHeld
     have hHeld:=hX
     clear hX
     try simp only [Act.put,List.setIfInBounds_toArray,List.set_cons_zero,List.set_cons_succ]
     refine wpAnyH_ready (rs:=[4]) (by kernel_rfl) (by simp) ?_
     refine cons2 rfl rfl (fun K9 hK=>?_)
     go_simp
     have HS8:=hid (show Below w7.heap.size w7 (w7.alloc (.cells #[.string r.1.op,.string r.1.name,.int .i64 (r.1.kind:Nat),.int .i64 r.1.n,.int .i64 (r.1.pl:Nat),.slice sa7 sm7 sc7] 31)) from (Below.refl _ _).alloc (Nat.le_refl _) _)
     have F8:=hid (TP7.out.next HS8.out)
     have C8:=hid (show NC (w7.alloc (.cells #[.string r.1.op,.string r.1.name,.int .i64 (r.1.kind:Nat),.int .i64 r.1.n,.int .i64 (r.1.pl:Nat),.slice sa7 sm7 sc7] 31)) w7.heap.size 0 r.1 (.slice sa7 sm7 sc7) from ⟨by simp,by simp,by simp,by simp,by simp,by simp⟩)
     have N8:=hid (show Nd (w7.alloc (.cells #[.string r.1.op,.string r.1.name,.int .i64 (r.1.kind:Nat),.int .i64 r.1.n,.int .i64 (r.1.pl:Nat),.slice sa7 sm7 sc7] 31)) (fun g=>q+1≤g∧some g≠(Value.slice sa ts.length sc).ownBlock) (.slice sa7 sm7 sc7) r.1.kids from NV7.out.keep fun g s l=>⟨⟨by have:=QL6.out;omega,fun e=>by have:=OL.out g e.symm;omega⟩,HS8.out.block g l⟩)
     have ba8:=hid (show q+1≤(w7.alloc (.cells #[.string r.1.op,.string r.1.name,.int .i64 (r.1.kind:Nat),.int .i64 r.1.n,.int .i64 (r.1.pl:Nat),.slice sa7 sm7 sc7] 31)).heap.size from F8.out.nb.lt)
     have m5:=F8.out.nb.c5
     clear HS8 NV7
     go_wp2_with fail
     refine hK.out _ _ (trivial) (fun hX=>?_)
     clear hK K9 hHeld
     have hHeld:=hX
     clear hX
     try simp only [Act.put,List.setIfInBounds_toArray,List.set_cons_zero,List.set_cons_succ]
     refine wpAnyH_ready (rs:=[5]) (by kernel_rfl) (by simp) ?_
     refine cons2 rfl rfl (fun K9 hK=>?_)
     rw [if_pos (by kernel_rfl)]
     refine wp_addM (.tmp 46) (.tmp 49) rfl (q+1) (.slice sa ts.length sc) ts r.1 (.slice sa7 sm7 sc7) rfl F8.out.ky w7.heap.size rfl C8.out N8.out (by omega) ba8.out ?_
     intro v9 w9 o9 g9
     obtain ⟨va,vm,vc,rfl,HVM⟩:=o9.sl3
     have F9:=hid (F8.out.kid g9 o9)
     have k5:=(F8.out.nb.grown g9 (F8.out.off (by omega))).c5
     have kz:=(F8.out.nb.grown g9 (F8.out.off (by omega))).fz 5
     clear o9 g9
     refine hK.out _ _ (trivial) (fun hX=>?_)
     clear hK K9 hHeld
     have hHeld:=hX
     clear hX
     try simp only [Act.put,List.setIfInBounds_toArray,List.set_cons_zero,List.set_cons_succ]
     refine take2 rfl (i:=6) (v:=(.pointer (some ⟨q,5,none⟩))) (d:=51) rfl rfl (by kernel_rfl) (by kernel_rfl) (by kernel_rfl) (fun _ _ _ h=>h) (Or.inl ⟨by rfl,?_⟩) hHeld ?_
     ·(intro W hW;(try dsimp only at hW);go_simp)
     try simp only [Act.put,List.setIfInBounds_toArray,List.set_cons_zero,List.set_cons_succ]
     refine wpAnyH_ready (rs:=[7]) (by kernel_rfl) (by simp) ?_
     refine cons2 rfl rfl (fun K9 hK=>?_)
     go_simp
     refine hK.out _ _ (trivial) (fun hX=>?_)
     clear hK K9 hHeld
     have hHeld:=hX
     clear hX
     try simp only [Act.put,List.setIfInBounds_toArray,List.set_cons_zero,List.set_cons_succ]
     refine wpAnyH_done (by kernel_rfl) ?_ _
     go_wp2_with fail
     go_roundg (msX r.2)
     case measure =>
      have:=LL.out
      have z1:z.ok=true:=ZO.out
      unfold msX
      rw [z1]
      rcases this with y | y
      ·rw [y];simp
      ·split
       ·simp;omega
       ·simp
     case rel =>
      have e9:=HVM.out
      subst e9
      exact ⟨f - 1,ts ++ [r.1],va,vc,r.2,rfl,by rw [List.length_append];show ts.length+1≤_;have:=(RI.out.2 ZO.out).2;omega,F9,⟨RZ.out,fun ok=>by
       rcases LL.out with y | y
       ·rw [y] at ok;cases ok
       ·obtain ⟨x1,x2⟩:=RI.out.2 ZO.out
        exact ⟨by omega,by rw [List.length_append];show ts.length+1+_≤_;omega⟩⟩⟩
    ·go_simp
     refine Calls.mono (DC.out) ?_
     rintro e w7 h7
     obtain ⟨g7,s7,sa7,sm7,sc7,rfl,nv7⟩:=h7.parts
     have NV7:=hid nv7
     have TP7:=hid (TP6.out.gr s7 g7)
     clear h7 g7 s7 nv7
     have e5:=TP7.out.nb.c5
     go_wp2_with fail
     refine hK.out _ _ (trivial) (fun hX=>?_)
     clear hK K9 hHeld
     have hHeld:=hX
     clear hX
     try simp only [Act.put,List.setIfInBounds_toArray,List.set_cons_zero,List.set_cons_succ]
     refine wpAnyH_ready (rs:=[1,4]) (by kernel_rfl) (by simp) ?_
     refine cons22 rfl rfl rfl (fun K9 hK=>?_) (fun K9 hK=>?_)
     ·go_simp
      go_wp2_with fail
      refine hK.out _ _ (trivial) (fun hX=>?_)
      clear hK K9 hHeld
      have hHeld:=hX
      clear hX
      try simp only [Act.put,List.setIfInBounds_toArray,List.set_cons_zero,List.set_cons_succ]
      refine wpAnyH_ready (rs:=[4]) (by kernel_rfl) (by simp) ?_
      refine cons2 rfl rfl (fun K9 hK=>?_)
      go_simp
      have HS8:=hid (show Below w7.heap.size w7 (w7.alloc (.cells #[.string r.1.op,.string r.1.name,.int .i64 (r.1.kind:Nat),.int .i64 r.1.n,.int .i64 (r.1.pl:Nat),.slice sa7 sm7 sc7] 31)) from (Below.refl _ _).alloc (Nat.le_refl _) _)
      have F8:=hid (TP7.out.next HS8.out)
      have C8:=hid (show NC (w7.alloc (.cells #[.string r.1.op,.string r.1.name,.int .i64 (r.1.kind:Nat),.int .i64 r.1.n,.int .i64 (r.1.pl:Nat),.slice sa7 sm7 sc7] 31)) w7.heap.size 0 r.1 (.slice sa7 sm7 sc7) from ⟨by simp,by simp,by simp,by simp,by simp,by simp⟩)
      have N8:=hid (show Nd (w7.alloc (.cells #[.string r.1.op,.string r.1.name,.int .i64 (r.1.kind:Nat),.int .i64 r.1.n,.int .i64 (r.1.pl:Nat),.slice sa7 sm7 sc7] 31)) (fun g=>q+1≤g∧some g≠(Value.slice sa ts.length sc).ownBlock) (.slice sa7 sm7 sc7) r.1.kids from NV7.out.keep fun g s l=>⟨⟨by have:=QL6.out;omega,fun e=>by have:=OL.out g e.symm;omega⟩,HS8.out.block g l⟩)
      have ba8:=hid (show q+1≤(w7.alloc (.cells #[.string r.1.op,.string r.1.name,.int .i64 (r.1.kind:Nat),.int .i64 r.1.n,.int .i64 (r.1.pl:Nat),.slice sa7 sm7 sc7] 31)).heap.size from F8.out.nb.lt)
      have m5:=F8.out.nb.c5
      clear HS8 NV7
      go_wp2_with fail
      refine hK.out _ _ (trivial) (fun hX=>?_)
      clear hK K9 hHeld
      have hHeld:=hX
      clear hX
      try simp only [Act.put,List.setIfInBounds_toArray,List.set_cons_zero,List.set_cons_succ]
      refine wpAnyH_ready (rs:=[5]) (by kernel_rfl) (by simp) ?_
      refine cons2 rfl rfl (fun K9 hK=>?_)
      rw [if_pos (by kernel_rfl)]
      refine wp_addM (.tmp 46) (.tmp 49) rfl (q+1) (.slice sa ts.length sc) ts r.1 (.slice sa7 sm7 sc7) rfl F8.out.ky w7.heap.size rfl C8.out N8.out (by omega) ba8.out ?_
      intro v9 w9 o9 g9
      obtain ⟨va,vm,vc,rfl,HVM⟩:=o9.sl3
      have F9:=hid (F8.out.kid g9 o9)
      have k5:=(F8.out.nb.grown g9 (F8.out.off (by omega))).c5
      have kz:=(F8.out.nb.grown g9 (F8.out.off (by omega))).fz 5
      clear o9 g9
      refine hK.out _ _ (trivial) (fun hX=>?_)
      clear hK K9 hHeld
      have hHeld:=hX
      clear hX
      try simp only [Act.put,List.setIfInBounds_toArray,List.set_cons_zero,List.set_cons_succ]
      refine take2 rfl (i:=6) (v:=(.pointer (some ⟨q,5,none⟩))) (d:=51) rfl rfl (by kernel_rfl) (by kernel_rfl) (by kernel_rfl) (fun _ _ _ h=>h) (Or.inl ⟨by rfl,?_⟩) hHeld ?_
      ·(intro W hW;(try dsimp only at hW);go_simp)
      try simp only [Act.put,List.setIfInBounds_toArray,List.set_cons_zero,List.set_cons_succ]
      refine wpAnyH_ready (rs:=[7]) (by kernel_rfl) (by simp) ?_
      refine cons2 rfl rfl (fun K9 hK=>?_)
      go_simp
      refine hK.out _ _ (trivial) (fun hX=>?_)
      clear hK K9 hHeld
      have hHeld:=hX
      clear hX
      try simp only [Act.put,List.setIfInBounds_toArray,List.set_cons_zero,List.set_cons_succ]
      refine wpAnyH_done (by kernel_rfl) ?_ _
      go_wp2_with fail
      go_roundg (msX r.2)
      case measure =>
       have:=LL.out
       have z1:z.ok=true:=ZO.out
       unfold msX
       rw [z1]
       rcases this with y | y
       ·rw [y];simp
       ·split
        ·simp;omega
        ·simp
      case rel =>
       have e9:=HVM.out
       subst e9
       exact ⟨f - 1,ts ++ [r.1],va,vc,r.2,rfl,by rw [List.length_append];show ts.length+1≤_;have:=(RI.out.2 ZO.out).2;omega,F9,⟨RZ.out,fun ok=>by
        rcases LL.out with y | y
        ·rw [y] at ok;cases ok
        ·obtain ⟨x1,x2⟩:=RI.out.2 ZO.out
         exact ⟨by omega,by rw [List.length_append];show ts.length+1+_≤_;omega⟩⟩⟩
     ·go_simp
      have HS8:=hid (show Below w7.heap.size w7 (w7.alloc (.cells #[.string r.1.op,.string r.1.name,.int .i64 (r.1.kind:Nat),.int .i64 r.1.n,.int .i64 (r.1.pl:Nat),.slice sa7 sm7 sc7] 31)) from (Below.refl _ _).alloc (Nat.le_refl _) _)
      have F8:=hid (TP7.out.next HS8.out)
      have C8:=hid (show NC (w7.alloc (.cells #[.string r.1.op,.string r.1.name,.int .i64 (r.1.kind:Nat),.int .i64 r.1.n,.int .i64 (r.1.pl:Nat),.slice sa7 sm7 sc7] 31)) w7.heap.size 0 r.1 (.slice sa7 sm7 sc7) from ⟨by simp,by simp,by simp,by simp,by simp,by simp⟩)
      have N8:=hid (show Nd (w7.alloc (.cells #[.string r.1.op,.string r.1.name,.int .i64 (r.1.kind:Nat),.int .i64 r.1.n,.int .i64 (r.1.pl:Nat),.slice sa7 sm7 sc7] 31)) (fun g=>q+1≤g∧some g≠(Value.slice sa ts.length sc).ownBlock) (.slice sa7 sm7 sc7) r.1.kids from NV7.out.keep fun g s l=>⟨⟨by have:=QL6.out;omega,fun e=>by have:=OL.out g e.symm;omega⟩,HS8.out.block g l⟩)
      have ba8:=hid (show q+1≤(w7.alloc (.cells #[.string r.1.op,.string r.1.name,.int .i64 (r.1.kind:Nat),.int .i64 r.1.n,.int .i64 (r.1.pl:Nat),.slice sa7 sm7 sc7] 31)).heap.size from F8.out.nb.lt)
      have m5:=F8.out.nb.c5
      clear HS8 NV7
      go_wp2_with fail
      refine hK.out _ _ (trivial) (fun hX=>?_)
      clear hK K9 hHeld
      have hHeld:=hX
      clear hX
      try simp only [Act.put,List.setIfInBounds_toArray,List.set_cons_zero,List.set_cons_succ]
      refine wpAnyH_ready (rs:=[1]) (by kernel_rfl) (by simp) ?_
      refine cons2 rfl rfl (fun K9 hK=>?_)
      go_simp
      go_wp2_with fail
      refine hK.out _ _ (trivial) (fun hX=>?_)
      clear hK K9 hHeld
      have hHeld:=hX
      clear hX
      try simp only [Act.put,List.setIfInBounds_toArray,List.set_cons_zero,List.set_cons_succ]
      refine wpAnyH_ready (rs:=[5]) (by kernel_rfl) (by simp) ?_
      refine cons2 rfl rfl (fun K9 hK=>?_)
      rw [if_pos (by kernel_rfl)]
      refine wp_addM (.tmp 46) (.tmp 49) rfl (q+1) (.slice sa ts.length sc) ts r.1 (.slice sa7 sm7 sc7) rfl F8.out.ky w7.heap.size rfl C8.out N8.out (by omega) ba8.out ?_
      intro v9 w9 o9 g9
      obtain ⟨va,vm,vc,rfl,HVM⟩:=o9.sl3
      have F9:=hid (F8.out.kid g9 o9)
      have k5:=(F8.out.nb.grown g9 (F8.out.off (by omega))).c5
      have kz:=(F8.out.nb.grown g9 (F8.out.off (by omega))).fz 5
      clear o9 g9
      refine hK.out _ _ (trivial) (fun hX=>?_)
      clear hK K9 hHeld
      have hHeld:=hX
      clear hX
      try simp only [Act.put,List.setIfInBounds_toArray,List.set_cons_zero,List.set_cons_succ]
      refine take2 rfl (i:=6) (v:=(.pointer (some ⟨q,5,none⟩))) (d:=51) rfl rfl (by kernel_rfl) (by kernel_rfl) (by kernel_rfl) (fun _ _ _ h=>h) (Or.inl ⟨by rfl,?_⟩) hHeld ?_
      ·(intro W hW;(try dsimp only at hW);go_simp)
      try simp only [Act.put,List.setIfInBounds_toArray,List.set_cons_zero,List.set_cons_succ]
      refine wpAnyH_ready (rs:=[7]) (by kernel_rfl) (by simp) ?_
      refine cons2 rfl rfl (fun K9 hK=>?_)
      go_simp
      refine hK.out _ _ (trivial) (fun hX=>?_)
      clear hK K9 hHeld
      have hHeld:=hX
      clear hX
      try simp only [Act.put,List.setIfInBounds_toArray,List.set_cons_zero,List.set_cons_succ]
      refine wpAnyH_done (by kernel_rfl) ?_ _
      go_wp2_with fail
      go_roundg (msX r.2)
      case measure =>
       have:=LL.out
       have z1:z.ok=true:=ZO.out
       unfold msX
       rw [z1]
       rcases this with y | y
       ·rw [y];simp
       ·split
        ·simp;omega
        ·simp
      case rel =>
       have e9:=HVM.out
       subst e9
       exact ⟨f - 1,ts ++ [r.1],va,vc,r.2,rfl,by rw [List.length_append];show ts.length+1≤_;have:=(RI.out.2 ZO.out).2;omega,F9,⟨RZ.out,fun ok=>by
        rcases LL.out with y | y
        ·rw [y] at ok;cases ok
        ·obtain ⟨x1,x2⟩:=RI.out.2 ZO.out
         exact ⟨by omega,by rw [List.length_append];show ts.length+1+_≤_;omega⟩⟩⟩
theorem parse_of (hD:∀ (p b c:Nat) (ws:List Wo) (w:World) (s:Sp),Sw w p b c ws 0 s→Calls Tryd.prog 26 #[.pointer (some ⟨p,0,none⟩)] w fun e w'=>Rn w w' p b c ws 0 e (declX (recR 40).2 s)) (hL:∀ s,0<s.l.length→(declX (recR 40).2 s).2.ok=false∨(declX (recR 40).2 s).2.l.length<s.l.length) (t:ByteArray) (w:World) (hs:t.size≤3000):Calls Tryd.prog 14 #[.string t] w fun e w'=>PsP t w e w':=by
 cases h:cutF t 0 with
 | mk R o =>
  cases o with
  | none=>exact rparse_good hD hL t w hs R h
  | some b=>exact rparse_bad t w hs R b h
theorem rparse_any (t:ByteArray) (w:World) (hs:t.size≤3000):Calls Tryd.prog 14 #[.string t] w fun e w'=>PsP t w e w' :=
 parse_of (fun p b c ws w s h=>rdecl_any w s h) (fun s h=>decl_less _ (mo_rec 40).2 s h) t w hs
inductive Sz:Tr→Prop
 | mk (t:Tr) (h:t.kids.length≤10000) (hk:∀ k,k ∈ t.kids→Sz k):Sz t
theorem Kr.sl3 {w:World} {base:Nat} {v:Value} {ts:List Tr} (h:Kr w base v ts):∃ sa sm sc,v=.slice sa sm sc∧Hid (sm=ts.length):=by
 cases h.nd with
 | nil=>exact ⟨_,_,_,rfl,rfl⟩
 | row g c ts sl hs h0 hc hk=>exact ⟨_,_,_,rfl,rfl⟩
structure Tk (w wr:World) (r q:Nat) (t:Tr) (sl slm:Value) (ts:List Tr):Prop where
 bl:Below w.heap.size w wr
 b1:B6 wr w.heap.size (.string t.op) (.string t.name) (.int .i64 (t.kind:Nat)) (.int .i64 t.n) (.int .i64 (t.pl:Nat)) sl
 hb:B6 wr r (.string ⟨#[]⟩) (.string ⟨#[]⟩) (.int .i64 0) (.int .i64 0) (.int .i64 0) (.slice none 0 0)
 nb:B6 wr q (.string t.op) (.string t.name) (.int .i64 (t.kind:Nat)) (.int .i64 t.n) (.int .i64 (t.pl:Nat)) slm
 ky:Kr wr (q+1) slm ts
 o1:w.heap.size<r
 o2:r<q
theorem Tk.next {w wr w':World} {r q:Nat} {t:Tr} {sl slm:Value} {ts:List Tr} (h:Tk w wr r q t sl slm ts) (k:Below wr.heap.size wr w'):Tk w w' r q t sl slm ts :=
 ⟨nextB h.bl k,h.b1.next k,h.hb.next k,h.nb.next k,h.ky.next k,h.o1,h.o2⟩
theorem Tk.off {w wr:World} {r q:Nat} {t:Tr} {sl slm:Value} {ts:List Tr} (h:Tk w wr r q t sl slm ts) {x:Nat} (hx:x≤q):some x≠slm.ownBlock:=fun e=>by
 have:=(h.ky.lt x e.symm).1
 omega
theorem Tk.kid {w wr w':World} {r q:Nat} {t:Tr} {sl slm v:Value} {ts ts':List Tr} (h:Tk w wr r q t sl slm ts) (g2:wr.grownBy w' slm.ownBlock) (o2:Kr w' (q+1) v ts'):Tk w (w'.setCell ⟨q,5,none⟩ v) r q t sl v ts':=by
 have a1:=h.o1
 have a2:=h.o2
 have bl:Below w.heap.size w w':=⟨g2.os.trans h.bl.os,g2.tape.trans h.bl.tape,g2.output.trans h.bl.output,Nat.le_trans h.bl.size g2.size,fun i hi=>(g2.block i (Nat.lt_of_lt_of_le hi h.bl.size) (h.off (by omega))).trans (h.bl.block i hi)⟩
 exact ⟨bl.setCell (p:=⟨q,5,none⟩) (by show _≤q;omega) _,(h.b1.grown g2 (h.off (by omega))).put (by omega) _,(h.hb.grown g2 (h.off (by omega))).put (by omega) _,(h.nb.grown g2 (h.off (by omega))).set5 _,o2.put (by omega) _,h.o1,h.o2⟩
def BkP (t:Tr) (w:World) (e:Ending) (w':World):Prop:=Below w.heap.size w w'∧∃ v,e=.returned v∧Nv w' (fun g=>w.heap.size≤g) v t
theorem Nd.atX {w:World} {S:Nat→Prop} {v:Value} {ts:List Tr} (h:Nd w S v ts) (h0:ts≠[]):∃ (g c:Nat) (sl:Nat→Value),v=.slice (some ⟨g,0,none⟩) ts.length c∧S g∧(∀ i t,ts[i]?=some t→NC w g (i*6) t (sl i))∧(∀ i t,ts[i]?=some t→Nd w S (sl i) t.kids):=by
 cases h with
 | nil=>exact absurd rfl h0
 | row g c ts sl hs h0 hc hk=>exact ⟨g,c,sl,rfl,hs,hc,hk⟩
set_option maxRecDepth 100000 in
set_option maxHeartbeats 4000000 in
theorem back_step (t:Tr) (hl:t.kids.length≤10000) (ih:∀ k,k ∈ t.kids→∀ (w:World) (v:Value),Nv w (fun _=>True) v k→Calls Tryd.prog 15 #[v] w fun e w'=>BkP k w e w') (w:World) (v:Value) (h:Nv w (fun _=>True) v t):Calls Tryd.prog 15 #[v] w fun e w'=>BkP t w e w':=by
 obtain ⟨sl,rfl,nd⟩:=h
 obtain ⟨sa,sm,sc,rfl⟩:=nd.slice
 have SM:sm=t.kids.length:=by
  cases hk:t.kids with
  | nil=>rw [hk] at nd;cases nd with
   | nil=>rfl
   | row g c ts sl hs h0 hc hk=>exact absurd rfl h0
  | cons x l=>obtain ⟨g,c,sl,e,_,_,_⟩:=nd.atX (by rw [hk];simp);injection e with e1 e2;rw [e2,hk]
 subst SM
 have ND:=hid nd
 have IH:=hid ih
 have HL:=hid hl
 clear nd ih
 go_enter Tryd.func15,Tryd.ntmps15
 go_upto_region 2 with fail
 have A1:=hid (show Below w.heap.size w (((w.alloc (.cells #[.string t.op,.string t.name,.int .i64 (t.kind:Nat),.int .i64 t.n,.int .i64 (t.pl:Nat),.slice sa t.kids.length sc] 31)).alloc (.cells #[.string ⟨#[]⟩,.string ⟨#[]⟩,.int .i64 0,.int .i64 0,.int .i64 0,.slice none 0 0] 28)).alloc (.cells #[.string t.op,.string t.name,.int .i64 (t.kind:Nat),.int .i64 t.n,.int .i64 (t.pl:Nat),.slice none 0 0] 28)) from (((Below.refl _ _).alloc (Nat.le_refl _) _).alloc (by simp) _).alloc (by simp;omega) _)
 have TK:=hid (show Tk w (((w.alloc (.cells #[.string t.op,.string t.name,.int .i64 (t.kind:Nat),.int .i64 t.n,.int .i64 (t.pl:Nat),.slice sa t.kids.length sc] 31)).alloc (.cells #[.string ⟨#[]⟩,.string ⟨#[]⟩,.int .i64 0,.int .i64 0,.int .i64 0,.slice none 0 0] 28)).alloc (.cells #[.string t.op,.string t.name,.int .i64 (t.kind:Nat),.int .i64 t.n,.int .i64 (t.pl:Nat),.slice none 0 0] 28)) (w.heap.size+1) (w.heap.size+1+1) t (.slice sa t.kids.length sc) (.slice none 0 0) [] from by
  have s1:(w.alloc (.cells #[.string t.op,.string t.name,.int .i64 (t.kind:Nat),.int .i64 t.n,.int .i64 (t.pl:Nat),.slice sa t.kids.length sc] 31)).heap.size=w.heap.size+1:=by simp
  have s2:((w.alloc (.cells #[.string t.op,.string t.name,.int .i64 (t.kind:Nat),.int .i64 t.n,.int .i64 (t.pl:Nat),.slice sa t.kids.length sc] 31)).alloc (.cells #[.string ⟨#[]⟩,.string ⟨#[]⟩,.int .i64 0,.int .i64 0,.int .i64 0,.slice none 0 0] 28)).heap.size=w.heap.size+1+1:=by simp
  refine ⟨A1.out,((B6.new w 31 _ _ _ _ _ _).next ((Below.refl _ _).alloc (Nat.le_refl _) _)).next ((Below.refl _ _).alloc (Nat.le_refl _) _),?_,?_,Kr.nil _ _,by omega,by omega⟩
  ·have:=(B6.new (w.alloc (.cells #[.string t.op,.string t.name,.int .i64 (t.kind:Nat),.int .i64 t.n,.int .i64 (t.pl:Nat),.slice sa t.kids.length sc] 31)) 28 (.string ⟨#[]⟩) (.string ⟨#[]⟩) (.int .i64 0) (.int .i64 0) (.int .i64 0) (.slice none 0 0)).next ((Below.refl _ _).alloc (Nat.le_refl _) (.cells #[.string t.op,.string t.name,.int .i64 (t.kind:Nat),.int .i64 t.n,.int .i64 (t.pl:Nat),.slice none 0 0] 28));rw [s1] at this;exact this
  ·have:=B6.new ((w.alloc (.cells #[.string t.op,.string t.name,.int .i64 (t.kind:Nat),.int .i64 t.n,.int .i64 (t.pl:Nat),.slice sa t.kids.length sc] 31)).alloc (.cells #[.string ⟨#[]⟩,.string ⟨#[]⟩,.int .i64 0,.int .i64 0,.int .i64 0,.slice none 0 0] 28)) 28 (.string t.op) (.string t.name) (.int .i64 (t.kind:Nat)) (.int .i64 t.n) (.int .i64 (t.pl:Nat)) (.slice none 0 0);rw [s2] at this;exact this)
 clear A1
 generalize World.alloc (World.alloc (World.alloc w _) _) _=w1 at *
 generalize w.heap.size+1+1=q at *
 generalize w.heap.size+1=r at *
 go_wp2_with fail
 go_loopg [4] (t.kids.length) (fun g iv wr=>∃ (j:Nat) (ma:Option Addr) (mm mc:Nat),j≤t.kids.length∧g=t.kids.length - j∧iv=.int .i64 (j:Nat)∧Hid (Tk w wr r q t (.slice sa t.kids.length sc) (.slice ma mm mc) (t.kids.take j)))
 case atStart=>exact ⟨0,_,_,_,Nat.zero_le _,rfl,rfl,TK⟩
 case round =>
  clear TK
  obtain ⟨j,ma,mm,mc,jl,rfl,rfl,TK⟩:=hrel
  have d5:=TK.out.b1.c5
  by_cases hj:j<t.kids.length
  ·have hj':(j:Int)<(t.kids.length:Int):=by omega
   obtain ⟨k,hk⟩:∃ k,t.kids[j]?=some k:=⟨_,List.getElem?_eq_getElem hj⟩
   have KM:=hid (List.mem_of_getElem? hk)
   have TKE:=hid (show t.kids.take (j+1)=t.kids.take j ++ [k] from by rw [List.take_add_one,hk];rfl)
   have ND1:=hid (ND.out.keep (w':=wr) (S':=fun g=>g<w.heap.size) fun g s l=>⟨l,TK.out.bl.block g l⟩)
   obtain ⟨g0,c0,slk,e0,g0l,hc,hn⟩:=ND1.out.atX (by intro z;rw [z] at hk;simp at hk)
   have KC0:=hid (hc j k hk)
   have KN0:=hid (hn j k hk)
   obtain ⟨ka,km,kc,ek⟩:=KN0.out.slice
   rw [ek] at KC0 KN0
   injection e0 with e1 _ e2
   subst e1 e2
   have g0l:g0<w.heap.size:=g0l
   clear hc hn ek hk ND1
   have KL9:(t.kids.length:Int)≤10000:=by have:=HL.out;omega
   go_upto_region 5 with fail
   have TK6:=hid (TK.out.next (Below.refl _ _).drew)
   have HH:=hid (show wr.cell? ⟨w.heap.size,5,none⟩=some (.slice (some ⟨g0,0,none⟩) t.kids.length sc)∧NC wr g0 (j*6) k (.slice ka km kc) from ⟨d5,KC0.out⟩)
   have IC:=hid (IH.out k KM.out wr.drew (.agg #[.string k.op,.string k.name,.int .i64 (k.kind:Nat),.int .i64 k.n,.int .i64 (k.pl:Nat),.slice ka km kc]) ⟨_,rfl,KN0.out.keep fun g s l=>⟨trivial,rfl⟩⟩)
   have QL6:=hid TK6.out.nb.lt
   have OL:=hid (fun k e=>(TK6.out.ky.lt k e).2)
   clear TK KC0 KN0 IH ND d5
   refine wp_region_held_drew (S:=(fun W=>W.cell? ⟨w.heap.size,5,none⟩=some (.slice (some ⟨g0,0,none⟩) t.kids.length sc)∧NC W g0 (j*6) k (.slice ka km kc))) (by kernel_rfl) ⟨HH.out.1,HH.out.2.keep rfl⟩ (fun hHeld=>?_)
   clear HH
   generalize wr.drew=w6 at *
   have d5:=TK6.out.nb.c5
   refine take2 rfl (i:=0) (v:=(.pointer (some ⟨q,5,none⟩))) (d:=23) rfl rfl (by kernel_rfl) (by kernel_rfl) (by kernel_rfl) (fun _ _ _ h=>h) (Or.inl ⟨by rfl,?_⟩) hHeld ?_
   ·(intro W hW;(try dsimp only at hW);go_simp)
   try simp only [Act.put,List.setIfInBounds_toArray,List.set_cons_zero,List.set_cons_succ]
   refine take2 rfl (i:=2) (v:=(.pointer (some ⟨w.heap.size,5,none⟩))) (d:=25) rfl rfl (by kernel_rfl) (by kernel_rfl) (by kernel_rfl) (fun _ _ _ h=>h) (Or.inl ⟨by rfl,?_⟩) hHeld ?_
   ·(intro W hW;(try dsimp only at hW);go_simp)
   try simp only [Act.put,List.setIfInBounds_toArray,List.set_cons_zero,List.set_cons_succ]
   refine take2 rfl (i:=3) (v:=(.slice (some ⟨g0,0,none⟩) t.kids.length sc)) (d:=26) rfl rfl (by kernel_rfl) (by kernel_rfl) (by kernel_rfl) (fun _ _ _ h=>h) (Or.inl ⟨by rfl,?_⟩) hHeld ?_
   ·(intro W hW;(try dsimp only at hW);go_simp)
   try simp only [Act.put,List.setIfInBounds_toArray,List.set_cons_zero,List.set_cons_succ]
   refine take2 rfl (i:=4) (v:=(.int .i64 (j:Nat))) (d:=27) rfl rfl (by kernel_rfl) (by kernel_rfl) (by kernel_rfl) (fun _ _ _ h=>h) (Or.inl ⟨by rfl,?_⟩) hHeld ?_
   ·(intro W hW;(try dsimp only at hW);go_simp)
   try simp only [Act.put,List.setIfInBounds_toArray,List.set_cons_zero,List.set_cons_succ]
   refine take2 rfl (i:=5) (v:=(.pointer (some ⟨g0,j*6,none⟩))) (d:=28) rfl rfl (by kernel_rfl) (by kernel_rfl) (by kernel_rfl) (fun _ _ _ h=>h) (Or.inl ⟨by rfl,?_⟩) hHeld ?_
   ·(intro W hW;(try dsimp only at hW);go_simp)
   try simp only [Act.put,List.setIfInBounds_toArray,List.set_cons_zero,List.set_cons_succ]
   refine take2 rfl (i:=6) (v:=(.agg #[.string k.op,.string k.name,.int .i64 (k.kind:Nat),.int .i64 k.n,.int .i64 (k.pl:Nat),.slice ka km kc])) (d:=29) rfl rfl (by kernel_rfl) (by kernel_rfl) (by kernel_rfl) (fun _ _ _ h=>h) (Or.inl ⟨by rfl,?_⟩) hHeld ?_
   ·(intro W hW;(try dsimp only at hW);obtain ⟨hW0,hW1,hW2,hW3,hW4,hW5⟩:=hW.2;go_simp)
   try simp only [Act.put,List.setIfInBounds_toArray,List.set_cons_zero,List.set_cons_succ]
   refine wpAnyH_ready (rs:=[1,7]) (by kernel_rfl) (by simp) ?_
   refine cons22 rfl rfl rfl (fun K9 hK=>?_) (fun K9 hK=>?_)
   ·go_simp
    go_wp2_with fail
    refine hK.out _ _ (hHeld) (fun hX=>?_)
    clear hK K9 hHeld
    have hHeld:=hX
    clear hX
    try simp only [Act.put,List.setIfInBounds_toArray,List.set_cons_zero,List.set_cons_succ]
    refine wpAnyH_ready (rs:=[7]) (by kernel_rfl) (by simp) ?_
    refine cons2 rfl rfl (fun K9 hK=>?_)
    go_simp
    refine Calls.mono (IC.out) ?_
    rintro e w7 ⟨b7,v7,rfl,sl7,rfl,nv7⟩
    obtain ⟨sa7,sm7,sc7,rfl⟩:=nv7.slice
    have NV7:=hid nv7
    have TK7:=hid (TK6.out.next b7)
    have e5:=TK7.out.nb.c5
    have B7:=hid b7
    clear nv7 b7
    go_wp2_with fail
    refine hK.out _ _ (⟨(World.cell?_of_block (a:=⟨w.heap.size,5,none⟩) (B7.out.block w.heap.size TK6.out.b1.lt)).trans hHeld.1,hHeld.2.keep (B7.out.block g0 (by have:=TK6.out.b1.lt;omega))⟩) (fun hX=>?_)
    clear hK K9 hHeld
    have hHeld:=hX
    clear hX
    try simp only [Act.put,List.setIfInBounds_toArray,List.set_cons_zero,List.set_cons_succ]
    refine wpAnyH_ready (rs:=[8]) (by kernel_rfl) (by simp) ?_
    refine cons2 rfl rfl (fun K9 hK=>?_)
    go_simp
    have HS8:=hid (show Below w7.heap.size w7 (w7.alloc (.cells #[.string k.op,.string k.name,.int .i64 (k.kind:Nat),.int .i64 k.n,.int .i64 (k.pl:Nat),.slice sa7 sm7 sc7] 28)) from (Below.refl _ _).alloc (Nat.le_refl _) _)
    have F8:=hid (TK7.out.next HS8.out)
    have C8:=hid (show NC (w7.alloc (.cells #[.string k.op,.string k.name,.int .i64 (k.kind:Nat),.int .i64 k.n,.int .i64 (k.pl:Nat),.slice sa7 sm7 sc7] 28)) w7.heap.size 0 k (.slice sa7 sm7 sc7) from ⟨by simp,by simp,by simp,by simp,by simp,by simp⟩)
    have N8:=hid (show Nd (w7.alloc (.cells #[.string k.op,.string k.name,.int .i64 (k.kind:Nat),.int .i64 k.n,.int .i64 (k.pl:Nat),.slice sa7 sm7 sc7] 28)) (fun g=>q+1≤g∧some g≠(Value.slice ma mm mc).ownBlock) (.slice sa7 sm7 sc7) k.kids from NV7.out.keep fun g s l=>⟨⟨by have:=QL6.out;omega,fun e=>by have:=OL.out g e.symm;omega⟩,HS8.out.block g l⟩)
    have ba8:=hid (show q+1≤(w7.alloc (.cells #[.string k.op,.string k.name,.int .i64 (k.kind:Nat),.int .i64 k.n,.int .i64 (k.pl:Nat),.slice sa7 sm7 sc7] 28)).heap.size from F8.out.nb.lt)
    have m5:=F8.out.nb.c5
    have BB8:=hid (fun x (l:x<w7.heap.size)=>HS8.out.block x l)
    clear HS8 NV7
    go_wp2_with fail
    refine hK.out _ _ (⟨(World.cell?_of_block (a:=⟨w.heap.size,5,none⟩) (BB8.out w.heap.size TK7.out.b1.lt)).trans hHeld.1,hHeld.2.keep (BB8.out g0 (by have:=TK7.out.b1.lt;omega))⟩) (fun hX=>?_)
    clear hK K9 hHeld
    have hHeld:=hX
    clear hX
    try simp only [Act.put,List.setIfInBounds_toArray,List.set_cons_zero,List.set_cons_succ]
    refine wpAnyH_ready (rs:=[9]) (by kernel_rfl) (by simp) ?_
    refine cons2 rfl rfl (fun K9 hK=>?_)
    rw [if_pos (by kernel_rfl)]
    refine wp_addN (.tmp 24) (.tmp 31) rfl (q+1) (.slice ma mm mc) (t.kids.take j) k (.slice sa7 sm7 sc7) rfl F8.out.ky w7.heap.size rfl C8.out N8.out (by rw [List.length_take];omega) ba8.out ?_
    intro v9 w9 o9 g9
    obtain ⟨va,vm,vc,rfl,HVM⟩:=o9.sl3
    have a1:=F8.out.o1
    have a2:=F8.out.o2
    have F9:=hid (F8.out.kid g9 o9)
    have k5:=(F8.out.nb.grown g9 (F8.out.off (by omega))).c5
    have kz:=(F8.out.nb.grown g9 (F8.out.off (by omega))).fz 5
    have G9:=hid g9
    clear o9 g9
    refine hK.out _ _ (⟨(World.cell?_of_block (a:=⟨w.heap.size,5,none⟩) (G9.out.block w.heap.size F8.out.b1.lt (F8.out.off (by omega)))).trans hHeld.1,hHeld.2.keep (G9.out.block g0 (by have:=F8.out.b1.lt;omega) (F8.out.off (by omega)))⟩) (fun hX=>?_)
    clear hK K9 hHeld
    have hHeld:=hX
    clear hX
    try simp only [Act.put,List.setIfInBounds_toArray,List.set_cons_zero,List.set_cons_succ]
    refine take2 rfl (i:=10) (v:=(.pointer (some ⟨q,5,none⟩))) (d:=33) rfl rfl (by kernel_rfl) (by kernel_rfl) (by kernel_rfl) (fun _ _ _ h=>h) (Or.inl ⟨by rfl,?_⟩) hHeld ?_
    ·(intro W hW;(try dsimp only at hW);go_simp)
    try simp only [Act.put,List.setIfInBounds_toArray,List.set_cons_zero,List.set_cons_succ]
    refine wpAnyH_ready (rs:=[11]) (by kernel_rfl) (by simp) ?_
    refine cons2 rfl rfl (fun K9 hK=>?_)
    go_simp
    refine hK.out _ _ (⟨(cell_ne (by omega)).trans hHeld.1,hHeld.2.keep (Below.heap_setCell _ ⟨q,5,none⟩ _ g0 (by show g0≠q;omega))⟩) (fun hX=>?_)
    clear hK K9 hHeld
    have hHeld:=hX
    clear hX
    try simp only [Act.put,List.setIfInBounds_toArray,List.set_cons_zero,List.set_cons_succ]
    refine wpAnyH_done (by kernel_rfl) ?_ _
    rw [← TKE.out] at F9
    clear hHeld
    go_wp2_with fail
    go_roundg (t.kids.length - (j+1))
    case measure=>omega
    case rel=>exact ⟨j+1,va,vm,vc,by omega,rfl,by rw [Int.natCast_add];rfl,F9⟩
   ·go_simp
    refine Calls.mono (IC.out) ?_
    rintro e w7 ⟨b7,v7,rfl,sl7,rfl,nv7⟩
    obtain ⟨sa7,sm7,sc7,rfl⟩:=nv7.slice
    have NV7:=hid nv7
    have TK7:=hid (TK6.out.next b7)
    have e5:=TK7.out.nb.c5
    have B7:=hid b7
    clear nv7 b7
    go_wp2_with fail
    refine hK.out _ _ (⟨(World.cell?_of_block (a:=⟨w.heap.size,5,none⟩) (B7.out.block w.heap.size TK6.out.b1.lt)).trans hHeld.1,hHeld.2.keep (B7.out.block g0 (by have:=TK6.out.b1.lt;omega))⟩) (fun hX=>?_)
    clear hK K9 hHeld
    have hHeld:=hX
    clear hX
    try simp only [Act.put,List.setIfInBounds_toArray,List.set_cons_zero,List.set_cons_succ]
    refine wpAnyH_ready (rs:=[1,8]) (by kernel_rfl) (by simp) ?_
    refine cons22 rfl rfl rfl (fun K9 hK=>?_) (fun K9 hK=>?_)
    ·go_simp
     go_wp2_with fail
     refine hK.out _ _ (hHeld) (fun hX=>?_)
     clear hK K9 hHeld
     have hHeld:=hX
     clear hX
     try simp only [Act.put,List.setIfInBounds_toArray,List.set_cons_zero,List.set_cons_succ]
     refine wpAnyH_ready (rs:=[8]) (by kernel_rfl) (by simp) ?_
     refine cons2 rfl rfl (fun K9 hK=>?_)
     go_simp
     have HS8:=hid (show Below w7.heap.size w7 (w7.alloc (.cells #[.string k.op,.string k.name,.int .i64 (k.kind:Nat),.int .i64 k.n,.int .i64 (k.pl:Nat),.slice sa7 sm7 sc7] 28)) from (Below.refl _ _).alloc (Nat.le_refl _) _)
     have F8:=hid (TK7.out.next HS8.out)
     have C8:=hid (show NC (w7.alloc (.cells #[.string k.op,.string k.name,.int .i64 (k.kind:Nat),.int .i64 k.n,.int .i64 (k.pl:Nat),.slice sa7 sm7 sc7] 28)) w7.heap.size 0 k (.slice sa7 sm7 sc7) from ⟨by simp,by simp,by simp,by simp,by simp,by simp⟩)
     have N8:=hid (show Nd (w7.alloc (.cells #[.string k.op,.string k.name,.int .i64 (k.kind:Nat),.int .i64 k.n,.int .i64 (k.pl:Nat),.slice sa7 sm7 sc7] 28)) (fun g=>q+1≤g∧some g≠(Value.slice ma mm mc).ownBlock) (.slice sa7 sm7 sc7) k.kids from NV7.out.keep fun g s l=>⟨⟨by have:=QL6.out;omega,fun e=>by have:=OL.out g e.symm;omega⟩,HS8.out.block g l⟩)
     have ba8:=hid (show q+1≤(w7.alloc (.cells #[.string k.op,.string k.name,.int .i64 (k.kind:Nat),.int .i64 k.n,.int .i64 (k.pl:Nat),.slice sa7 sm7 sc7] 28)).heap.size from F8.out.nb.lt)
     have m5:=F8.out.nb.c5
     have BB8:=hid (fun x (l:x<w7.heap.size)=>HS8.out.block x l)
     clear HS8 NV7
     go_wp2_with fail
     refine hK.out _ _ (⟨(World.cell?_of_block (a:=⟨w.heap.size,5,none⟩) (BB8.out w.heap.size TK7.out.b1.lt)).trans hHeld.1,hHeld.2.keep (BB8.out g0 (by have:=TK7.out.b1.lt;omega))⟩) (fun hX=>?_)
     clear hK K9 hHeld
     have hHeld:=hX
     clear hX
     try simp only [Act.put,List.setIfInBounds_toArray,List.set_cons_zero,List.set_cons_succ]
     refine wpAnyH_ready (rs:=[9]) (by kernel_rfl) (by simp) ?_
     refine cons2 rfl rfl (fun K9 hK=>?_)
     rw [if_pos (by kernel_rfl)]
     refine wp_addN (.tmp 24) (.tmp 31) rfl (q+1) (.slice ma mm mc) (t.kids.take j) k (.slice sa7 sm7 sc7) rfl F8.out.ky w7.heap.size rfl C8.out N8.out (by rw [List.length_take];omega) ba8.out ?_
     intro v9 w9 o9 g9
     obtain ⟨va,vm,vc,rfl,HVM⟩:=o9.sl3
     have a1:=F8.out.o1
     have a2:=F8.out.o2
     have F9:=hid (F8.out.kid g9 o9)
     have k5:=(F8.out.nb.grown g9 (F8.out.off (by omega))).c5
     have kz:=(F8.out.nb.grown g9 (F8.out.off (by omega))).fz 5
     have G9:=hid g9
     clear o9 g9
     refine hK.out _ _ (⟨(World.cell?_of_block (a:=⟨w.heap.size,5,none⟩) (G9.out.block w.heap.size F8.out.b1.lt (F8.out.off (by omega)))).trans hHeld.1,hHeld.2.keep (G9.out.block g0 (by have:=F8.out.b1.lt;omega) (F8.out.off (by omega)))⟩) (fun hX=>?_)
     clear hK K9 hHeld
     have hHeld:=hX
     clear hX
     try simp only [Act.put,List.setIfInBounds_toArray,List.set_cons_zero,List.set_cons_succ]
     refine take2 rfl (i:=10) (v:=(.pointer (some ⟨q,5,none⟩))) (d:=33) rfl rfl (by kernel_rfl) (by kernel_rfl) (by kernel_rfl) (fun _ _ _ h=>h) (Or.inl ⟨by rfl,?_⟩) hHeld ?_
     ·(intro W hW;(try dsimp only at hW);go_simp)
     try simp only [Act.put,List.setIfInBounds_toArray,List.set_cons_zero,List.set_cons_succ]
     refine wpAnyH_ready (rs:=[11]) (by kernel_rfl) (by simp) ?_
     refine cons2 rfl rfl (fun K9 hK=>?_)
     go_simp
     refine hK.out _ _ (⟨(cell_ne (by omega)).trans hHeld.1,hHeld.2.keep (Below.heap_setCell _ ⟨q,5,none⟩ _ g0 (by show g0≠q;omega))⟩) (fun hX=>?_)
     clear hK K9 hHeld
     have hHeld:=hX
     clear hX
     try simp only [Act.put,List.setIfInBounds_toArray,List.set_cons_zero,List.set_cons_succ]
     refine wpAnyH_done (by kernel_rfl) ?_ _
     rw [← TKE.out] at F9
     clear hHeld
     go_wp2_with fail
     go_roundg (t.kids.length - (j+1))
     case measure=>omega
     case rel=>exact ⟨j+1,va,vm,vc,by omega,rfl,by rw [Int.natCast_add];rfl,F9⟩
    ·go_simp
     have HS8:=hid (show Below w7.heap.size w7 (w7.alloc (.cells #[.string k.op,.string k.name,.int .i64 (k.kind:Nat),.int .i64 k.n,.int .i64 (k.pl:Nat),.slice sa7 sm7 sc7] 28)) from (Below.refl _ _).alloc (Nat.le_refl _) _)
     have F8:=hid (TK7.out.next HS8.out)
     have C8:=hid (show NC (w7.alloc (.cells #[.string k.op,.string k.name,.int .i64 (k.kind:Nat),.int .i64 k.n,.int .i64 (k.pl:Nat),.slice sa7 sm7 sc7] 28)) w7.heap.size 0 k (.slice sa7 sm7 sc7) from ⟨by simp,by simp,by simp,by simp,by simp,by simp⟩)
     have N8:=hid (show Nd (w7.alloc (.cells #[.string k.op,.string k.name,.int .i64 (k.kind:Nat),.int .i64 k.n,.int .i64 (k.pl:Nat),.slice sa7 sm7 sc7] 28)) (fun g=>q+1≤g∧some g≠(Value.slice ma mm mc).ownBlock) (.slice sa7 sm7 sc7) k.kids from NV7.out.keep fun g s l=>⟨⟨by have:=QL6.out;omega,fun e=>by have:=OL.out g e.symm;omega⟩,HS8.out.block g l⟩)
     have ba8:=hid (show q+1≤(w7.alloc (.cells #[.string k.op,.string k.name,.int .i64 (k.kind:Nat),.int .i64 k.n,.int .i64 (k.pl:Nat),.slice sa7 sm7 sc7] 28)).heap.size from F8.out.nb.lt)
     have m5:=F8.out.nb.c5
     have BB8:=hid (fun x (l:x<w7.heap.size)=>HS8.out.block x l)
     clear HS8 NV7
     go_wp2_with fail
     refine hK.out _ _ (⟨(World.cell?_of_block (a:=⟨w.heap.size,5,none⟩) (BB8.out w.heap.size TK7.out.b1.lt)).trans hHeld.1,hHeld.2.keep (BB8.out g0 (by have:=TK7.out.b1.lt;omega))⟩) (fun hX=>?_)
     clear hK K9 hHeld
     have hHeld:=hX
     clear hX
     try simp only [Act.put,List.setIfInBounds_toArray,List.set_cons_zero,List.set_cons_succ]
     refine wpAnyH_ready (rs:=[1]) (by kernel_rfl) (by simp) ?_
     refine cons2 rfl rfl (fun K9 hK=>?_)
     go_simp
     go_wp2_with fail
     refine hK.out _ _ (hHeld) (fun hX=>?_)
     clear hK K9 hHeld
     have hHeld:=hX
     clear hX
     try simp only [Act.put,List.setIfInBounds_toArray,List.set_cons_zero,List.set_cons_succ]
     refine wpAnyH_ready (rs:=[9]) (by kernel_rfl) (by simp) ?_
     refine cons2 rfl rfl (fun K9 hK=>?_)
     rw [if_pos (by kernel_rfl)]
     refine wp_addN (.tmp 24) (.tmp 31) rfl (q+1) (.slice ma mm mc) (t.kids.take j) k (.slice sa7 sm7 sc7) rfl F8.out.ky w7.heap.size rfl C8.out N8.out (by rw [List.length_take];omega) ba8.out ?_
     intro v9 w9 o9 g9
     obtain ⟨va,vm,vc,rfl,HVM⟩:=o9.sl3
     have a1:=F8.out.o1
     have a2:=F8.out.o2
     have F9:=hid (F8.out.kid g9 o9)
     have k5:=(F8.out.nb.grown g9 (F8.out.off (by omega))).c5
     have kz:=(F8.out.nb.grown g9 (F8.out.off (by omega))).fz 5
     have G9:=hid g9
     clear o9 g9
     refine hK.out _ _ (⟨(World.cell?_of_block (a:=⟨w.heap.size,5,none⟩) (G9.out.block w.heap.size F8.out.b1.lt (F8.out.off (by omega)))).trans hHeld.1,hHeld.2.keep (G9.out.block g0 (by have:=F8.out.b1.lt;omega) (F8.out.off (by omega)))⟩) (fun hX=>?_)
     clear hK K9 hHeld
     have hHeld:=hX
     clear hX
     try simp only [Act.put,List.setIfInBounds_toArray,List.set_cons_zero,List.set_cons_succ]
     refine take2 rfl (i:=10) (v:=(.pointer (some ⟨q,5,none⟩))) (d:=33) rfl rfl (by kernel_rfl) (by kernel_rfl) (by kernel_rfl) (fun _ _ _ h=>h) (Or.inl ⟨by rfl,?_⟩) hHeld ?_
     ·(intro W hW;(try dsimp only at hW);go_simp)
     try simp only [Act.put,List.setIfInBounds_toArray,List.set_cons_zero,List.set_cons_succ]
     refine wpAnyH_ready (rs:=[11]) (by kernel_rfl) (by simp) ?_
     refine cons2 rfl rfl (fun K9 hK=>?_)
     go_simp
     refine hK.out _ _ (⟨(cell_ne (by omega)).trans hHeld.1,hHeld.2.keep (Below.heap_setCell _ ⟨q,5,none⟩ _ g0 (by show g0≠q;omega))⟩) (fun hX=>?_)
     clear hK K9 hHeld
     have hHeld:=hX
     clear hX
     try simp only [Act.put,List.setIfInBounds_toArray,List.set_cons_zero,List.set_cons_succ]
     refine wpAnyH_done (by kernel_rfl) ?_ _
     rw [← TKE.out] at F9
     clear hHeld
     go_wp2_with fail
     go_roundg (t.kids.length - (j+1))
     case measure=>omega
     case rel=>exact ⟨j+1,va,vm,vc,by omega,rfl,by rw [Int.natCast_add];rfl,F9⟩
  ·have hj':¬ (j:Int)<(t.kids.length:Int):=by omega
   obtain rfl:j=t.kids.length:=by omega
   have TKE:=hid (List.take_length (l:=t.kids))
   rw [TKE.out] at TK
   have a1:=TK.out.o1
   have a2:=TK.out.o2
   go_upto_region 6 with fail
   obtain ⟨h0,h1,h2,h3,h4,h5,hz⟩:=TK.out.hb
   obtain ⟨v0,v1,v2,v3,v4,v5,vz⟩:=TK.out.nb
   have BF:=hid (TK.out.hb.sets (.string t.op) (.string t.name) (.int .i64 (t.kind:Nat)) (.int .i64 t.n) (.int .i64 (t.pl:Nat)) (.slice ma mm mc))
   have BL:=hid (Below.put6X TK.out.bl (q:=r) (by omega) (.string t.op) (.string t.name) (.int .i64 (t.kind:Nat)) (.int .i64 t.n) (.int .i64 (t.pl:Nat)) (.slice ma mm mc))
   have NF:=hid (Nd.put6x (q:=r) (m:=w.heap.size) TK.out.ky.nd (by omega) (by omega) (.string t.op) (.string t.name) (.int .i64 (t.kind:Nat)) (.int .i64 t.n) (.int .i64 (t.pl:Nat)) (.slice ma mm mc))
   go_wp2_with fail
   generalize World.setCell _ ⟨r,5,none⟩ _=wf at *
   obtain ⟨q0,q1,q2,q3,q4,q5,_⟩:=BF.out
   exact bodyPost_ret (v:=.agg #[.string t.op,.string t.name,.int .i64 (t.kind:Nat),.int .i64 t.n,.int .i64 (t.pl:Nat),.slice ma mm mc]) (by simp [results,Tryd.results15,go_sem,q0,q1,q2,q3,q4,q5]) rfl ⟨BL.out,_,rfl,_,rfl,NF.out⟩
theorem back_any {t:Tr} (h:Sz t):∀ (w:World) (v:Value),Nv w (fun _=>True) v t→Calls Tryd.prog 15 #[v] w fun e w'=>BkP t w e w':=by
 induction h with
 | mk t hl _ ih=>exact fun w v n=>back_step t hl ih w v n
theorem sz_leaf {t:Tr} (h:t.kids=[]):Sz t:=.mk t (by rw [h];simp) (fun k hk=>by rw [h] at hk;simp at hk)
theorem sz_zero:Sz Tr.zero:=sz_leaf rfl
theorem sz_kids {t:Tr} (l:List Tr) (h:t.kids=l) (hl:l.length≤10000) (hk:∀ k,k ∈ l→Sz k):Sz t:=.mk t (by rw [h];exact hl) (fun k q=>hk k (by rw [← h];exact q))
theorem sz_lit (s:Sp):Sz s.lit.1:=by
 unfold Sp.lit
 split
 ·show Sz (litV s.l)
  unfold litV lit1
  split <;> (try split) <;> (try split) <;> (try split) <;> exact sz_leaf rfl
 ·exact sz_zero
def Gs (A:Ax):Prop:=∀ s,Sz (A s).1
theorem sz_two {op:ByteArray} {a:Nat} {x y:Tr} (h1:Sz x) (h2:Sz y):Sz (two op a x y):=sz_kids [x,y] rfl (by simp) (fun k hk=>by simp at hk;rcases hk with rfl | rfl <;> assumption)
theorem sz_one {op n:ByteArray} {a:Nat} {x:Tr} (h1:Sz x):Sz (one op n a x):=sz_kids [x] rfl (by simp) (fun k hk=>by simp at hk;subst hk;exact h1)
theorem gs_loop {B:Ax} (hB:Gs B) (lv:Nat):∀ f t s,Sz t→Sz (loopX B lv f t s).1
 | 0,t,s,h=>h
 | f+1,t,s,h=>by
  unfold loopX
  split
  ·split
   ·exact sz_two h (hB _)
   ·exact gs_loop hB lv f _ _ (sz_two h (hB _))
  ·exact h
theorem gs_row {U:Ax} (hU:Gs U):∀ m,Gs (rowR U m)
 | 0=>hU
 | m+1=>fun s=>by
  unfold rowR
  exact gs_loop (gs_row hU m) _ _ _ _ (gs_row hU m s)
theorem gs_prim {E:Ax} (hE:Gs E):Gs (primR E):=fun s=>by
 unfold primR
 split
 ·exact sz_lit s
 split
 ·exact sz_two (hE _) (hE _)
 split
 ·exact sz_two (hE _) (hE _)
 split
 ·exact hE _
 split
 ·exact sz_one (hE _)
 split
 ·exact sz_one (hE _)
 split
 ·unfold sumR;exact sz_kids [_,_] rfl (by simp) (fun k hk=>by simp at hk;rcases hk with rfl | rfl <;> exact hE _)
 ·exact sz_leaf rfl
theorem gs_un {U:Option Ax} {E:Ax} (hU:∀ V,U=some V→Gs V) (hE:Gs E):Gs (unR U E):=fun s=>by
 have t1:∀ op,Sz (trnR U op s).1:=fun op=>by
  unfold trnR
  cases U with
  | none=>exact sz_zero
  | some V=>exact sz_one (hU V rfl _)
 unfold unR
 split
 ·exact t1 _
 split
 ·exact t1 _
 ·exact gs_prim hE s
theorem gs_ins {U E:Ax} (hU:Gs U) (hE:Gs E):Gs (insR U E):=fun s=>by
 unfold insR
 split
 ·unfold ifR;exact sz_kids [_,_,_] rfl (by simp) (fun k hk=>by simp at hk;rcases hk with rfl | rfl | rfl <;> exact hE _)
 ·exact gs_row hU 5 s
theorem gs_ex {R:Option (Ax × Ax)} (h:∀ V,R=some V→Gs V.1∧Gs V.2):Gs (exR R):=fun s=>by
 unfold exR
 split
 ·cases R with
  | none=>exact sz_zero
  | some V=>exact gs_ins (h V rfl).1 (h V rfl).2 s
 ·exact sz_zero
theorem gs_rec:∀ n,Gs (recR n).1∧Gs (recR n).2
 | 0=>by
  have e:Gs (exR none):=gs_ex (fun V h=>by cases h)
  exact ⟨gs_un (fun V h=>by cases h) e,e⟩
 | n+1=>by
  obtain ⟨h1,h2⟩:=gs_rec n
  have e:Gs (exR (some (recR n))):=gs_ex (fun V h=>by injection h with h;subst h;exact ⟨h1,h2⟩)
  exact ⟨gs_un (fun V h=>by injection h with h;subst h;exact h1) e,e⟩
theorem gs_rows:∀ f ks s,(∀ k,k ∈ ks→Sz k)→(∀ k,k ∈ (rowsX f ks s).1→Sz k)∧(rowsX f ks s).1.length≤ks.length+f
 | 0,ks,s,h=>⟨h,by simp [rowsX]⟩
 | f+1,ks,s,h=>by
  unfold rowsX
  split
  ·split
   ·exact ⟨h,by simp⟩
   ·obtain ⟨a1,a2⟩:=gs_rows f (ks ++ [rowT (aw s.l) [s.lit.1,(Sp.lit (s.lit.2.want sColon)).1]]) ((Sp.lit (s.lit.2.want sColon)).2.want sComma) (fun k hk=>by
     rcases List.mem_append.1 hk with q | q
     ·exact h k q
     ·simp at q;subst q;exact sz_kids [_,_] rfl (by simp) (fun k hk=>by simp at hk;rcases hk with rfl | rfl <;> exact sz_lit _))
    exact ⟨a1,by rw [List.length_append] at a2;simp at a2;show (rowsX f _ _).1.length≤_;omega⟩
  ·exact ⟨h,by simp⟩
theorem gs_decl {E:Ax} (hE:Gs E):Gs (declX E):=fun s=>by
 unfold declX
 split
 ·exact sz_leaf rfl
 split
 ·exact sz_kids [_] rfl (by simp) (fun k hk=>by simp at hk;subst hk;exact hE _)
 split
 ·obtain ⟨a1,a2⟩:=gs_rows 33 [] (s.nx.nm.2.kd.2.kd.2.want sBrace) (fun k hk=>by simp at hk)
  refine sz_kids _ rfl ?_ ?_
  ·show ((rowsX 33 [] (s.nx.nm.2.kd.2.kd.2.want sBrace)).1 ++ [_]).length≤_
   rw [List.length_append];simp at a2 ⊢;omega
  ·intro k hk
   have hk:k ∈ (rowsX 33 [] (s.nx.nm.2.kd.2.kd.2.want sBrace)).1 ++ [_]:=hk
   rcases List.mem_append.1 hk with q | q
   ·exact a1 k q
   ·simp at q;subst q;exact sz_kids [_] rfl (by simp) (fun k hk=>by simp at hk;subst hk;exact sz_lit _)
 ·exact sz_leaf rfl
theorem gs_decls {E : Ax} (hE : Gs E) : ∀ f ks s, (∀ k, k ∈ ks → Sz k) → (∀ k, k ∈ (declsX E f ks s).1 → Sz k) ∧ (declsX E f ks s).1.length ≤ ks.length + f
  | 0, ks, s, h => ⟨h, by simp [declsX]⟩
  | f + 1, ks, s, h => by
    unfold declsX
    split
    · obtain ⟨a1, a2⟩ := gs_decls hE f (ks ++ [(declX E s).1]) (declX E s).2 (fun k hk => by
          rcases List.mem_append.1 hk with q | q
          · exact h k q
          · simp at q; subst q; exact gs_decl hE s)
      exact ⟨a1, by rw [List.length_append] at a2; simp at a2; omega⟩
    · exact ⟨h, by simp⟩
theorem sz_parse {t:ByteArray} {T:Tr} (hs:t.size≤3000) (h:parseX t=.inl T):Sz T:=by
 unfold parseX at h
 cases hc:cutF t 0 with
 | mk R o =>
  rw [hc] at h
  cases o with
  | some b=>simp at h
  | none =>
   have ln:=(cut_finX t _ 0 R (Nat.le_refl _) (Nat.zero_le _) hc).1
   simp only at h
   unfold parX at h
   obtain ⟨a1,a2⟩:=gs_decls (gs_rec 40).2 (R.map (wo t)).length [] ⟨R.map (wo t),none,false⟩ (fun k hk=>by simp at hk)
   simp only at h
   split at h
   ·injection h with h
    subst h
    exact sz_kids _ rfl (Nat.le_trans a2 (by rw [List.length_map,List.length_nil];omega)) a1
   ·cases h
def trX (t:ByteArray):Tr:=match parseX t with | .inl T=>T | .inr _=>Tr.zero
def okX (t:ByteArray):Bool:=match parseX t with | .inl _=>true | .inr _=>false
theorem sz_tr {t:ByteArray} (hs:t.size≤3000):Sz (trX t):=by
 unfold trX
 cases h:parseX t with
 | inl T=>exact sz_parse hs h
 | inr x=>exact sz_zero
theorem parse_uni {t:ByteArray} {w w':World} {e:Ending} (h:PsP t w e w'):Below w.heap.size w w'∧∃ (bd:Int) (d:Bool) (sa:Option Addr) (sm sc:Nat),e=.returned (.tuple #[.agg #[.string (trX t).op,.string (trX t).name,.int .i64 ((trX t).kind:Nat),.int .i64 (trX t).n,.int .i64 ((trX t).pl:Nat),.slice sa sm sc],.int .i64 bd,.bool d])∧Nd w' (fun g=>w.heap.size≤g) (.slice sa sm sc) (trX t).kids∧decide (bd<0)=okX t:=by
 unfold PsP at h
 unfold trX okX
 obtain ⟨b,h⟩:=h
 refine ⟨b,?_⟩
 cases hp:parseX t with
 | inl T =>
  rw [hp] at h
  obtain ⟨v,rfl,sl,rfl,n⟩:=h
  obtain ⟨sa,sm,sc,rfl⟩:=n.slice
  exact ⟨-1,false,sa,sm,sc,rfl,n,rfl⟩
 | inr x =>
  obtain ⟨a,d⟩:=x
  rw [hp] at h
  have h:e=_:=h
  subst h
  exact ⟨(a:Nat),d,none,0,0,rfl,.nil,decide_eq_false (by omega)⟩
def RdX (t:ByteArray) (w:World) (e:Ending) (w':World):Prop:=Below w.heap.size w w'∧∃ (sa sb:Option Addr) (sm sc sn sd:Nat),e=.returned (.tuple #[.agg #[.string (trX t).op,.string (trX t).name,.int .i64 ((trX t).kind:Nat),.int .i64 (trX t).n,.int .i64 ((trX t).pl:Nat),.slice sa sm sc],.agg #[.string (trX t).op,.string (trX t).name,.int .i64 ((trX t).kind:Nat),.int .i64 (trX t).n,.int .i64 ((trX t).pl:Nat),.slice sb sn sd],.bool (okX t)])∧Nd w' (fun g=>w.heap.size≤g) (.slice sa sm sc) (trX t).kids∧Nd w' (fun g=>w.heap.size≤g) (.slice sb sn sd) (trX t).kids
set_option maxRecDepth 100000 in
set_option maxHeartbeats 4000000 in
theorem read_any (t:ByteArray) (w:World) (hs:t.size≤3000):Calls Tryd.prog 6 #[.string t] w fun e w'=>RdX t w e w':=by
 have PC:=hid (fun w=>(rparse_any t w hs).mono fun e w' h=>parse_uni h)
 have SZ:=hid (sz_tr hs)
 unfold RdX
 obtain ⟨T,hT⟩:∃ T,trX t=T:=⟨_,rfl⟩
 obtain ⟨ok,hok⟩:∃ ok,okX t=ok:=⟨_,rfl⟩
 rw [hT] at PC SZ ⊢
 rw [hok] at PC ⊢
 clear hT hok
 have A2:=hid (show Below w.heap.size w ((w.alloc (.cells #[.string ⟨#[]⟩,.string ⟨#[]⟩,.int .i64 0,.int .i64 0,.int .i64 0,.slice none 0 0] 28)).alloc (.cells #[.string ⟨#[]⟩,.string ⟨#[]⟩,.int .i64 0,.int .i64 0,.int .i64 0,.slice none 0 0] 31)) from ((Below.refl _ _).alloc (Nat.le_refl _) _).alloc (by simp) _)
 have H1:=hid (show B6 ((w.alloc (.cells #[.string ⟨#[]⟩,.string ⟨#[]⟩,.int .i64 0,.int .i64 0,.int .i64 0,.slice none 0 0] 28)).alloc (.cells #[.string ⟨#[]⟩,.string ⟨#[]⟩,.int .i64 0,.int .i64 0,.int .i64 0,.slice none 0 0] 31)) w.heap.size (.string ⟨#[]⟩) (.string ⟨#[]⟩) (.int .i64 0) (.int .i64 0) (.int .i64 0) (.slice none 0 0) from (B6.new w 28 _ _ _ _ _ _).next ((Below.refl _ _).alloc (Nat.le_refl _) _))
 have H2:=hid (show B6 ((w.alloc (.cells #[.string ⟨#[]⟩,.string ⟨#[]⟩,.int .i64 0,.int .i64 0,.int .i64 0,.slice none 0 0] 28)).alloc (.cells #[.string ⟨#[]⟩,.string ⟨#[]⟩,.int .i64 0,.int .i64 0,.int .i64 0,.slice none 0 0] 31)) (w.heap.size+1) (.string ⟨#[]⟩) (.string ⟨#[]⟩) (.int .i64 0) (.int .i64 0) (.int .i64 0) (.slice none 0 0) from by have:=B6.new (w.alloc (.cells #[.string ⟨#[]⟩,.string ⟨#[]⟩,.int .i64 0,.int .i64 0,.int .i64 0,.slice none 0 0] 28)) 31 (.string ⟨#[]⟩) (.string ⟨#[]⟩) (.int .i64 0) (.int .i64 0) (.int .i64 0) (.slice none 0 0);rw [show (w.alloc (.cells #[.string ⟨#[]⟩,.string ⟨#[]⟩,.int .i64 0,.int .i64 0,.int .i64 0,.slice none 0 0] 28)).heap.size=w.heap.size+1 by simp] at this;exact this)
 go_enter Tryd.func6,Tryd.ntmps6
 go_upto_region 1 with fail
 generalize World.alloc (World.alloc w _) _=w1 at *
 have r2:w.heap.size<w.heap.size+1:=by omega
 generalize w.heap.size+1=q at *
 have C1:=hid (PC.out w1)
 go_upto_region 2 with (go_at_call 14;with_reducible refine Calls.mono C1.out ?_;rintro e w2 ⟨b2,bd,d,sa,sm,sc,rfl,nd2,hb⟩;have W1:=hid (Nat.lt_of_lt_of_le H2.out.lt b2.size);have QL:=hid H2.out.lt;replace A2:=hid (nextB A2.out b2);replace H1:=hid (H1.out.next b2);replace H2:=hid (H2.out.next b2);have ND:=hid nd2;have OK:=hid hb;clear b2 nd2 hb C1)
 have AL:=hid (show Below w2.heap.size w2 (w2.alloc (.cells #[.string T.op,.string T.name,.int .i64 (T.kind:Nat),.int .i64 T.n,.int .i64 (T.pl:Nat),.slice sa sm sc] 31)) from (Below.refl _ _).alloc (Nat.le_refl _) _)
 have BB:=hid (B6.new w2 31 (.string T.op) (.string T.name) (.int .i64 (T.kind:Nat)) (.int .i64 T.n) (.int .i64 (T.pl:Nat)) (.slice sa sm sc))
 replace A2:=hid (nextB A2.out AL.out)
 replace H1:=hid (H1.out.next AL.out)
 replace H2:=hid (H2.out.next AL.out)
 have ND3:=hid ((ND.out.next AL.out).weak (m:=q+1) QL.out)
 have gq:q<w2.heap.size:=W1.out
 clear AL ND W1 QL
 generalize World.alloc w2 _=w3 at *
 generalize w2.heap.size=g at *
 have gr:g≠w.heap.size:=by omega
 have gq':g≠q:=by omega
 have BC:=hid (back_any SZ.out w3.drew (.agg #[.string T.op,.string T.name,.int .i64 (T.kind:Nat),.int .i64 T.n,.int .i64 (T.pl:Nat),.slice sa sm sc]) ⟨_,rfl,ND3.out.keep fun g s l=>⟨trivial,rfl⟩⟩)
 replace A2:=hid (nextB A2.out (Below.refl _ _).drew)
 replace H1:=hid (H1.out.next (Below.refl _ _).drew)
 replace H2:=hid (H2.out.next (Below.refl _ _).drew)
 replace ND3:=hid (ND3.out.next (Below.refl _ _).drew)
 replace BB:=hid (BB.out.next (Below.refl _ _).drew)
 refine wp_region_held_drew (S:=(fun W=>B6 W g (.string T.op) (.string T.name) (.int .i64 (T.kind:Nat)) (.int .i64 T.n) (.int .i64 (T.pl:Nat)) (.slice sa sm sc))) (by kernel_rfl) BB.out (fun hHeld=>?_)
 generalize w3.drew=w4 at *
 refine take2 rfl (i:=0) (v:=(.agg #[.string T.op,.string T.name,.int .i64 (T.kind:Nat),.int .i64 T.n,.int .i64 (T.pl:Nat),.slice sa sm sc])) (d:=14) rfl rfl (by kernel_rfl) (by kernel_rfl) (by kernel_rfl) (fun _ _ _ h=>h) (Or.inl ⟨by rfl,?_⟩) hHeld ?_
 ·(intro W hW;(try dsimp only at hW);obtain ⟨hW0,hW1,hW2,hW3,hW4,hW5,hW6⟩:=hW;go_simp)
 try simp only [Act.put,List.setIfInBounds_toArray,List.set_cons_zero,List.set_cons_succ]
 refine take2 rfl (i:=2) (v:=(.agg #[.string T.op,.string T.name,.int .i64 (T.kind:Nat),.int .i64 T.n,.int .i64 (T.pl:Nat),.slice sa sm sc])) (d:=16) rfl rfl (by kernel_rfl) (by kernel_rfl) (by kernel_rfl) (fun _ _ _ h=>h) (Or.inl ⟨by rfl,?_⟩) hHeld ?_
 ·(intro W hW;(try dsimp only at hW);obtain ⟨hW0,hW1,hW2,hW3,hW4,hW5,hW6⟩:=hW;go_simp)
 try simp only [Act.put,List.setIfInBounds_toArray,List.set_cons_zero,List.set_cons_succ]
 refine take2 rfl (i:=3) (v:=(.int .i64 bd)) (d:=17) rfl rfl (by kernel_rfl) (by kernel_rfl) (by kernel_rfl) (fun _ _ _ h=>h) (Or.inl ⟨by rfl,?_⟩) hHeld ?_
 ·(intro W hW;(try dsimp only at hW);go_simp)
 try simp only [Act.put,List.setIfInBounds_toArray,List.set_cons_zero,List.set_cons_succ]
 refine take2 rfl (i:=4) (v:=(.bool (decide (bd<0)))) (d:=18) rfl rfl (by kernel_rfl) (by kernel_rfl) (by kernel_rfl) (fun _ _ _ h=>h) (Or.inl ⟨by rfl,?_⟩) hHeld ?_
 ·(intro W hW;(try dsimp only at hW);go_simp)
 try simp only [Act.put,List.setIfInBounds_toArray,List.set_cons_zero,List.set_cons_succ]
 refine wpAnyH_ready (rs:=[1]) (by kernel_rfl) (by simp) ?_
 refine cons2 rfl rfl (fun K9 hK=>?_)
 go_simp
 refine Calls.mono (BC.out) ?_
 rintro e w7 ⟨b7,v7,rfl,sl7,rfl,nv7⟩
 obtain ⟨ta,tm,tc,rfl⟩:=nv7.slice
 have QL4:=hid H2.out.lt
 have NV7:=hid (nv7.weak (m:=q+1) QL4.out)
 replace A2:=hid (nextB A2.out b7)
 replace H1:=hid (H1.out.next b7)
 replace H2:=hid (H2.out.next b7)
 replace ND3:=hid (ND3.out.next b7)
 replace BB:=hid (BB.out.next b7)
 clear nv7 b7 QL4
 go_wp2_with fail
 refine hK.out _ _ (BB.out) (fun hX=>?_)
 clear hK K9 hHeld
 have hHeld:=hX
 clear hX
 try simp only [Act.put,List.setIfInBounds_toArray,List.set_cons_zero,List.set_cons_succ]
 obtain ⟨h0,h1,h2,h3,h4,h5,hz⟩:=H1.out
 refine wpAnyH_ready (rs:=[5]) (by kernel_rfl) (by simp) ?_
 refine cons2 rfl rfl (fun K9 hK=>?_)
 go_simp
 have K1:=hid (H1.out.sets (.string T.op) (.string T.name) (.int .i64 (T.kind:Nat)) (.int .i64 T.n) (.int .i64 (T.pl:Nat)) (.slice ta tm tc))
 have K2:=hid (H2.out.put6 (q:=w.heap.size) (by omega) (.string T.op) (.string T.name) (.int .i64 (T.kind:Nat)) (.int .i64 T.n) (.int .i64 (T.pl:Nat)) (.slice ta tm tc))
 have KB:=hid (BB.out.put6 (q:=w.heap.size) gr (.string T.op) (.string T.name) (.int .i64 (T.kind:Nat)) (.int .i64 T.n) (.int .i64 (T.pl:Nat)) (.slice ta tm tc))
 have KA:=hid (Below.put6X A2.out (q:=w.heap.size) (Nat.le_refl _) (.string T.op) (.string T.name) (.int .i64 (T.kind:Nat)) (.int .i64 T.n) (.int .i64 (T.pl:Nat)) (.slice ta tm tc))
 have KN:=hid (Nd.put6x (q:=w.heap.size) (m:=q+1) NV7.out (by omega) (Nat.le_refl _) (.string T.op) (.string T.name) (.int .i64 (T.kind:Nat)) (.int .i64 T.n) (.int .i64 (T.pl:Nat)) (.slice ta tm tc))
 have KD:=hid (Nd.put6x (q:=w.heap.size) (m:=q+1) ND3.out (by omega) (Nat.le_refl _) (.string T.op) (.string T.name) (.int .i64 (T.kind:Nat)) (.int .i64 T.n) (.int .i64 (T.pl:Nat)) (.slice ta tm tc))
 clear H1 H2 BB A2 NV7 ND3 h0 h1 h2 h3 h4 h5 hz
 generalize World.setCell _ ⟨w.heap.size,5,none⟩ _=w8 at *
 refine hK.out _ _ (KB.out) (fun hX=>?_)
 clear hK K9 hHeld
 have hHeld:=hX
 clear hX
 try simp only [Act.put,List.setIfInBounds_toArray,List.set_cons_zero,List.set_cons_succ]
 obtain ⟨h0,h1,h2,h3,h4,h5,hz⟩:=K2.out
 refine wpAnyH_ready (rs:=[6]) (by kernel_rfl) (by simp) ?_
 refine cons2 rfl rfl (fun K9 hK=>?_)
 go_simp
 have J1:=hid (K1.out.put6 (q:=q) (by omega) (.string T.op) (.string T.name) (.int .i64 (T.kind:Nat)) (.int .i64 T.n) (.int .i64 (T.pl:Nat)) (.slice sa sm sc))
 have J2:=hid (K2.out.sets (.string T.op) (.string T.name) (.int .i64 (T.kind:Nat)) (.int .i64 T.n) (.int .i64 (T.pl:Nat)) (.slice sa sm sc))
 have JB:=hid (KB.out.put6 (q:=q) gq' (.string T.op) (.string T.name) (.int .i64 (T.kind:Nat)) (.int .i64 T.n) (.int .i64 (T.pl:Nat)) (.slice sa sm sc))
 have JA:=hid (Below.put6X KA.out (q:=q) (by omega) (.string T.op) (.string T.name) (.int .i64 (T.kind:Nat)) (.int .i64 T.n) (.int .i64 (T.pl:Nat)) (.slice sa sm sc))
 have JN:=hid (Nd.put6x (q:=q) (m:=w.heap.size) KN.out (by omega) (by omega) (.string T.op) (.string T.name) (.int .i64 (T.kind:Nat)) (.int .i64 T.n) (.int .i64 (T.pl:Nat)) (.slice sa sm sc))
 have JD:=hid (Nd.put6x (q:=q) (m:=w.heap.size) KD.out (by omega) (by omega) (.string T.op) (.string T.name) (.int .i64 (T.kind:Nat)) (.int .i64 T.n) (.int .i64 (T.pl:Nat)) (.slice sa sm sc))
 clear K1 K2 KB KA KN KD h0 h1 h2 h3 h4 h5 hz
 generalize World.setCell _ ⟨q,5,none⟩ _=w9 at *
 refine hK.out _ _ (JB.out) (fun hX=>?_)
 clear hK K9 hHeld
 have hHeld:=hX
 clear hX
 try simp only [Act.put,List.setIfInBounds_toArray,List.set_cons_zero,List.set_cons_succ]
 refine take2 rfl (i:=7) (v:=(.bool (decide (bd<0)))) (d:=4) rfl rfl (by kernel_rfl) (by kernel_rfl) (by kernel_rfl) (fun _ _ _ h=>h) (Or.inl ⟨by rfl,?_⟩) hHeld ?_
 ·(intro W hW;(try dsimp only at hW);go_simp)
 try simp only [Act.put,List.setIfInBounds_toArray,List.set_cons_zero,List.set_cons_succ]
 refine wpAnyH_done (by kernel_rfl) ?_ _
 go_wp2_with fail
 obtain ⟨q0,q1,q2,q3,q4,q5,_⟩:=J1.out
 obtain ⟨y0,y1,y2,y3,y4,y5,_⟩:=J2.out
 exact bodyPost_ret (v:=.tuple #[.agg #[.string T.op,.string T.name,.int .i64 (T.kind:Nat),.int .i64 T.n,.int .i64 (T.pl:Nat),.slice ta tm tc],.agg #[.string T.op,.string T.name,.int .i64 (T.kind:Nat),.int .i64 T.n,.int .i64 (T.pl:Nat),.slice sa sm sc],.bool (decide (bd<0))]) (by simp [results,Tryd.results6,go_sem,q0,q1,q2,q3,q4,q5,y0,y1,y2,y3,y4,y5]) rfl ⟨JA.out,ta,sa,tm,tc,sm,sc,by rw [OK.out],JN.out,JD.out⟩
end Go.Proofs.YtbeahnehjannpaaDoor
