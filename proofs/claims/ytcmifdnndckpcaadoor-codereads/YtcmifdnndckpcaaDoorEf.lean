/- The walk over publicanref14's Decode. -/
import Derived.Test.YtcmifdnndckpcaaDoorEe
import Derived.Test.YtcmifdnndckpcaaDoorCh
import Derived.Deep.DeepCutAuto
namespace Go.Proofs.YtcmifdnndckpcaaDoor
open Go.RowKit
set_option linter.unusedVariables false
set_option linter.unusedSimpArgs false

/-- What it answers. -/
def RfP (w w' : World) (e : Ending) (bs : List Int) : Prop := ∃ v, e = .returned (.tuple #[v, .bool (refP bs).isSome]) ∧ Pw w' v ((refP bs).getD zP) ∧ Below w.heap.size w w'
/-- A text of a program is no longer than the program. -/
theorem txt_body {p : PP} : ∀ s ∈ p.2.2.2.2.2.1, s.length ≤ (bodyOf p).length := by
  obtain ⟨p0, p1, p2, p3, p4, p5, p6⟩ := p
  intro s hs
  have m : (cS.en s).length ≤ (p5.map cS.en).flatten.length := mem_en (c := cS) hs
  have l : (cS.en s).length = (enc s.length).length + s.length := by show (enc s.length ++ s).length = _; rw [List.length_append]
  have e : ((p5.map cS.en).flatten).length ≤ (bodyOf (p0, p1, p2, p3, p4, p5, p6)).length := by
    show _ ≤ ((cL false cC).en p0 ++ ((cL false (cT false)).en p1 ++ ((cL false cI).en p2 ++ ((cL false cI).en p3 ++ ((cL false cI).en p4 ++ ((enc p5.length ++ (p5.map cS.en).flatten) ++ (cL false cN).en p6)))))).length
    simp only [List.length_append]
    omega
  omega
theorem rdQ_eq {bs : List Int} {N1 N2 N3 N4 : Nat} {t1 t1e t2 t2e t2k t3 t3e t4 t : Sr} {x1 : List (Int × Int)} {x2 : List (Int × Int × List Int × List Int)} {x3 x4 x5 : List Int} {x6 : List (List Int)} {xs : List (Int × Int × Int × Int)} (E1 : N1 = (cnt true (mid bs, false)).1 ∧ t1 = (cnt true (mid bs, false)).2) (F1 : rdN cC N1 t1 = (x1, t1e))
    (E2 : N2 = (cnt true t1e).1 ∧ t2 = (cnt true t1e).2) (F2 : rdN (cT true) N2 t2 = (x2, t2e)) (H3 : x3 = ((cL true cI).rd t2e).1) (H4 : x4 = ((cL true cI).rd ((cL true cI).rd t2e).2).1) (H5 : x5 = ((cL true cI).rd ((cL true cI).rd ((cL true cI).rd t2e).2).2).1) (HK : t2k = ((cL true cI).rd ((cL true cI).rd ((cL true cI).rd t2e).2).2).2)
    (E3 : N3 = (cnt true t2k).1 ∧ t3 = (cnt true t2k).2) (F3 : rdN cS N3 t3 = (x6, t3e)) (E4 : N4 = (cnt true t3e).1 ∧ t4 = (cnt true t3e).2) (F4 : rdN cN N4 t4 = (xs, t)) : rdQ bs = ((x1, x2, x3, x4, x5, x6, xs), t) := by
  have h1 : (cL true cC).rd (mid bs, false) = (x1, t1e) := by show rdN cC _ _ = _; rw [← E1.1, ← E1.2]; exact F1
  have h2 : (cL true (cT true)).rd t1e = (x2, t2e) := by show rdN (cT true) _ _ = _; rw [← E2.1, ← E2.2]; exact F2
  have h6 : (cL true cS).rd t2k = (x6, t3e) := by show rdN cS _ _ = _; rw [← E3.1, ← E3.2]; exact F3
  have h7 : (cL true cN).rd t3e = (xs, t) := by show rdN cN _ _ = _; rw [← E4.1, ← E4.2]; exact F4
  rw [HK] at h6
  unfold rdQ cProg
  simp only [cP, h1, h2, ← H3, ← H4, ← H5, h6, h7]
theorem refP_yes {bs : List Int} {p : PP} (h1 : 8 ≤ bs.length) (h2 : bs.take 4 = fisc) (h3 : rdQ bs = (p, ([], false))) (h4 : bytesOf p = bs) : refP bs = some p := by
  unfold refP
  rw [h3]
  exact if_pos ⟨h1, h2, rfl, rfl, h4⟩
/-- An item that is read into a box of its own. -/
structure It (wr wj : World) (p q y : Nat) (T : TypeId) (cs : Array Value) (t : Sr) : Prop where
  rd : Rd wj p q t.2 t.1
  fr : wr.grownBy wj (some p)
  box : Bx wj y T cs
theorem step_addQ {w : World} {ops : Array Oper} {o : Oper} {a : Act} {K : Act → World → Prop} {Q : Exit → Act → World → Prop} {E : Prop} {α : Type} (T tS : TypeId) (k bytes : Nat) (z : Value) (f : α → List Value) (hgd : o.guard = none) (sl x : Operand)
    (ho : o.op = .call { callee := .builtin .append, args := #[sl, x], argTypes := #[tS, tS] }) (hu : Tryd.prog.underlying tS = some (.slice T)) (hinfo : (Tryd.prog.info? T).map (fun i => (i.zero, i.size, i.bytes)) = some (some z, k, bytes)) (hz : z.cells.size = k) (hk : 0 < k) (hby : bytes ≤ 100)
    (hf : ∀ x, (f x).length = k) (B : Nat) (v : Value) (xs : List α) (y : α) (hs : a.eval sl = v) (hown : Qf T k f w B v xs) (h1 : ∀ u ∈ f y, u.oneCell' = true) (g : Nat) (hx : a.eval x = .slice (some ⟨g, 0, none⟩) 1 1) (hc : ∀ j u, (f y)[j]? = some u → w.cell? ⟨g, j, none⟩ = some u) (hl : xs.length ≤ 100000000) (hB : B ≤ w.heap.size)
    (h : ∀ v' w', Qf T k f w' B v' (xs ++ [y]) → w.grownBy w' v.ownBlock → K (a.put o.dst v') w') : if Region.wanted o (yielded ops a.tmps) = true then Oper.wp Tryd.prog o a w K Q else E := by
  have hw : Region.wanted o (yielded ops a.tmps) = true := by simp [Region.wanted, hgd]
  rw [if_pos hw]
  obtain ⟨i0, hi, hz0, hz1, hz2⟩ := info_parts hinfo
  have hb2 : (xs.length + 1) * bytes ≤ 100000001 * 100 := Nat.mul_le_mul (by omega) hby
  refine wp_append_own w sl x tS ho B T i0 z k bytes hu hi hz0 hz1 hz2 hz hk v xs.length (xs.flatMap f) hs hown ⟨g, 0, none⟩ 1 1 (f y) hx (by rw [hf, Nat.one_mul]) (fun j u hu => ?_) h1 (by unfold maxLen; omega) (by omega) hB (fun v' w' h2 h3 _ => ?_)
  · rw [show (⟨g, 0, none⟩ : Addr).add j = ⟨g, j, none⟩ by unfold Addr.add; split <;> simp_all]
    exact hc j u hu
  · refine h v' w' ?_ h3
    show w'.ownsRow B T k v' (xs ++ [y]).length ((xs ++ [y]).flatMap f)
    rw [List.length_append, List.flatMap_append, show [y].flatMap f = f y by simp]
    exact h2
theorem It.read {wr wj w' : World} {p q y : Nat} {T : TypeId} {cs : Array Value} {t t' : Sr} (h : It wr wj p q y T cs t) (hy : p ≠ y) (r : Rp wj w' p q t') : It wr w' p q y T cs t' := ⟨r.rd, grownBy_trans h.fr r.fr, h.box.but r.fr hy⟩
theorem It.set {wr wj : World} {p q y i : Nat} {T : TypeId} {cs cs' : Array Value} {t : Sr} (h : It wr wj p q y T cs t) (v : Value) (h1 : y ≠ p) (h2 : y ≠ q) (hy : wr.heap.size ≤ y) (e : cs' = cs.setIfInBounds i v) : It wr (wj.setCell ⟨y, i, none⟩ v) p q y T cs' t := ⟨h.rd.set v h1 h2, fr_set h.fr v hy, h.box.upd v e⟩
theorem Dc.put {w wr : World} {B p q bx i : Nat} {u0 u1 u2 u3 u4 u5 u6 v0 v1 v2 v3 v4 v5 v6 v : Value} {x x' : PP} {t : Sr} (h : Dc w wr B p q bx u0 u1 u2 u3 u4 u5 u6 x t) (P : Pl w B p q bx)
    (e : (#[v0, v1, v2, v3, v4, v5, v6] : Array Value) = (#[u0, u1, u2, u3, u4, u5, u6] : Array Value).setIfInBounds i v) (f : Fd wr B v0 v1 v2 v3 v4 v5 v6 x') : Dc w (wr.setCell ⟨bx, i, none⟩ v) B p q bx v0 v1 v2 v3 v4 v5 v6 x' t :=
  h.add P (World.grownBy.refl wr none) (fun k e => by cases e) e f
theorem refP_no {bs : List Int} (h : ¬ (8 ≤ bs.length ∧ bs.take 4 = fisc ∧ (rdQ bs).2.2 = false ∧ (rdQ bs).2.1 = [] ∧ bytesOf (rdQ bs).1 = bs)) : refP bs = none := by unfold refP; rw [if_neg h]
set_option maxRecDepth 100000 in
set_option maxHeartbeats 32000000 in
theorem ref14_Decode_any (w : World) (a : Option Addr) (n c : Nat) (bs : List Int) (h : By w a n c bs) (hn : n ≤ 3000) :
    Calls Tryd.prog 17 #[.slice a n c] w fun e w' => RfP w w' e bs := by
  have X0 := hid (Bx.new w #[.slice none 0 0, .slice none 0 0, .slice none 0 0, .slice none 0 0, .slice none 0 0, .slice none 0 0, .slice none 0 0] 29 (by decide))
  have B0 := hid (allocB w (.cells #[.slice none 0 0, .slice none 0 0, .slice none 0 0, .slice none 0 0, .slice none 0 0, .slice none 0 0, .slice none 0 0] 29))
  have Y0 := hid (h.below B0.out)
  have hl := h.len
  have hok := hid h.ok
  obtain ⟨r, hr⟩ : ∃ r, r = w.heap.size := ⟨_, rfl⟩
  have WR := hid hr
  rw [← hr] at X0
  by_cases q : n < 8
  · have q' : (n : Int) < 8 := by omega
    have E := hid (refP_no (bs := bs) (fun h => by have := h.1; omega))
    clear h hn hr hl
    go_enter Tryd.func17, Tryd.ntmps17
    go_upto_region 1 with fail
    rw [← WR.out]
    generalize World.alloc w _ = w0 at *
    have d0 := X0.out.cell 0 _ rfl
    have d1 := X0.out.cell 1 _ rfl
    have d2 := X0.out.cell 2 _ rfl
    have d3 := X0.out.cell 3 _ rfl
    have d4 := X0.out.cell 4 _ rfl
    have d5 := X0.out.cell 5 _ rfl
    have d6 := X0.out.cell 6 _ rfl
    have fz := X0.out.fz
    have S := hid (set7 (.slice none 0 0) (.slice none 0 0) (.slice none 0 0) (.slice none 0 0) (.slice none 0 0) (.slice none 0 0) (.slice none 0 0) d0 d1 d2 d3 d4 d5 d6)
    have BF := hid (bl_but B0.out (Nat.le_of_eq WR.out.symm) (grown7 w0 r (.slice none 0 0) (.slice none 0 0) (.slice none 0 0) (.slice none 0 0) (.slice none 0 0) (.slice none 0 0) (.slice none 0 0)))
    go_wp2_with fail
    clear fz d0 d1 d2 d3 d4 d5 d6
    generalize (((((((w0.setCell ⟨r, 0, none⟩ (.slice none 0 0)).setCell ⟨r, 1, none⟩ (.slice none 0 0)).setCell ⟨r, 2, none⟩ (.slice none 0 0)).setCell ⟨r, 3, none⟩ (.slice none 0 0)).setCell ⟨r, 4, none⟩ (.slice none 0 0)).setCell ⟨r, 5, none⟩ (.slice none 0 0)).setCell ⟨r, 6, none⟩ (.slice none 0 0)) = wf at *
    obtain ⟨f0, f1, f2, f3, f4, f5, f6⟩ := S.out
    try simp only [Exit.inBlock, Exit.then]
    refine bodyPost_ret (by simp [results, Tryd.results17, go_sem, f0, f1, f2, f3, f4, f5, f6]; try rfl) rfl ?_
    refine ⟨_, by rw [E.out]; rfl, ?_, BF.out⟩
    rw [E.out]
    exact Pw.zero _
  obtain ⟨k, rfl⟩ : ∃ k, n = k + 8 := ⟨n - 8, by omega⟩
  have q' : ¬ ((k : Int) + 8 < 8) := by omega
  obtain ⟨g, o, h1, -⟩ := h.cell
  obtain rfl := h1 (by omega)
  have hf := h.fits
  have hm := h.max
  have kb : k ≤ 3000 := by omega
  have HL := hid hl
  have S4 := (Y0.out.take (k := 4) (by omega)).str
  have ST := hid (str_eq (a := bs.take 4) (b := fisc) (hok.out.take 4) (Bys.mk (by decide) (by decide) (Bys.mk (by decide) (by decide) (Bys.mk (by decide) (by decide) (Bys.mk (by decide) (by decide) Bys.nil)))))
  have MK := hid (show ((strOfNums fisc).toList : List UInt8) = [70, 73, 83, 67] from by decide +kernel)
  rw [MK.out] at ST
  generalize strOfNums (bs.take 4) = s4 at *
  by_cases qm : bs.take 4 = fisc
  rotate_left
  · have E := hid (refP_no (bs := bs) (fun h => qm h.2.1))
    have n4 : (s4.toList == [70, 73, 83, 67]) = false := by rw [ST.out]; simp [qm]
    clear h hn hr hl h1
    go_enter Tryd.func17, Tryd.ntmps17
    go_upto_region 1 with fail
    rw [← WR.out]
    generalize World.alloc w _ = w0 at *
    have d0 := X0.out.cell 0 _ rfl
    have d1 := X0.out.cell 1 _ rfl
    have d2 := X0.out.cell 2 _ rfl
    have d3 := X0.out.cell 3 _ rfl
    have d4 := X0.out.cell 4 _ rfl
    have d5 := X0.out.cell 5 _ rfl
    have d6 := X0.out.cell 6 _ rfl
    have fz := X0.out.fz
    have S := hid (set7 (.slice none 0 0) (.slice none 0 0) (.slice none 0 0) (.slice none 0 0) (.slice none 0 0) (.slice none 0 0) (.slice none 0 0) d0 d1 d2 d3 d4 d5 d6)
    have BF := hid (bl_but B0.out (Nat.le_of_eq WR.out.symm) (grown7 w0 r (.slice none 0 0) (.slice none 0 0) (.slice none 0 0) (.slice none 0 0) (.slice none 0 0) (.slice none 0 0) (.slice none 0 0)))
    go_wp2_with fail
    clear fz d0 d1 d2 d3 d4 d5 d6
    generalize (((((((w0.setCell ⟨r, 0, none⟩ (.slice none 0 0)).setCell ⟨r, 1, none⟩ (.slice none 0 0)).setCell ⟨r, 2, none⟩ (.slice none 0 0)).setCell ⟨r, 3, none⟩ (.slice none 0 0)).setCell ⟨r, 4, none⟩ (.slice none 0 0)).setCell ⟨r, 5, none⟩ (.slice none 0 0)).setCell ⟨r, 6, none⟩ (.slice none 0 0)) = wf at *
    obtain ⟨f0, f1, f2, f3, f4, f5, f6⟩ := S.out
    try simp only [Exit.inBlock, Exit.then]
    refine bodyPost_ret (by simp [results, Tryd.results17, go_sem, f0, f1, f2, f3, f4, f5, f6]; try rfl) rfl ?_
    refine ⟨_, by rw [E.out]; rfl, ?_, BF.out⟩
    rw [E.out]
    exact Pw.zero _
  have n4 : (s4.toList == [70, 73, 83, 67]) = true := by rw [ST.out]; simp [qm]
  have YM := hid (show By _ (some ⟨g, o + 4, none⟩) k (c - 4) (mid bs) from by
    have y := (Y0.out.take (k := k + 4) (by omega)).drop (k := 4) (o' := o + 4) (by omega) (fun _ => rfl)
    rw [show k + 4 - 4 = k by omega] at y
    unfold mid
    rw [hl, show k + 8 - 4 = k + 4 by omega]
    exact y)
  have QM := hid qm
  clear h h1 hn hr hl qm
  go_enter Tryd.func17, Tryd.ntmps17
  go_upto_region 1 with fail
  rw [← WR.out]
  have W0 := hid (show 0 < (w.alloc (.cells #[.slice none 0 0, .slice none 0 0, .slice none 0 0, .slice none 0 0, .slice none 0 0, .slice none 0 0, .slice none 0 0] 29)).heap.size from by simp)
  generalize World.alloc w _ = w0 at *
  go_upto_region 3 with fail
  clear S4 n4 ST MK
  have sub4 : (k : Int) + 8 - 4 = (k : Int) + 4 := by omega
  have c4 : ¬ c = 4 := by omega
  have w4 : wrap64 ((k : Int) + 4) = (k : Int) + 4 := by unfold wrap64; omega
  have k4 : ((k : Int) + 4).toNat = k + 4 := by omega
  have ML := hid (show (mid bs).length = k from YM.out.len)
  go_upto_region 4 with (at_builtin; refine wpList_append_by rfl (.tmp 25) (.tmp 30) rfl w0.heap.size _ [] rfl (own_empty w0) (some ⟨g, o + 4, none⟩) k (c - 4) (mid bs) rfl (YM.out.below (allocB w0 _)) (by simp; omega) (by simp) ?_; intro v1 w1 o1 g1; rw [List.nil_append] at o1; obtain ⟨a1, c1, rfl, y1, s1, hh1⟩ := o1.by; rw [ML.out] at y1; have B1 := hid (show Below w0.heap.size w0 w1 from (allocB w0 _).grown g1 (by simp) (fun k hk => ((own_empty w0).row.lt k hk).1)); have Y1 := hid y1; have S1 := hid s1; have H1 := hid hh1; clear y1 s1 hh1 o1 g1; rw [ML.out])
  clear sub4 c4 w4 k4
  obtain ⟨q, rq, hq⟩ := rd_new7 (bs := mid bs) (cap := c1) 87 W0.out (by rw [ML.out]; exact Y1.out) S1.out H1.out B1.out
  rw [ML.out] at rq
  have B2 := hid (nextB B1.out (allocB w1 (.cells #[.slice a1 k c1, .bool false] 87)))
  have PS := hid (show w1.heap.size < (w1.alloc (.cells #[.slice a1 k c1, .bool false] 87)).heap.size from by simp)
  obtain ⟨p, hp⟩ : ∃ p, p = w1.heap.size := ⟨_, rfl⟩
  have HP := hid (show w0.heap.size ≤ p from by rw [hp]; exact B1.out.size)
  rw [← hp] at rq hq PS ⊢
  have RQ := hid rq
  have HQ := hid hq
  clear rq hq hp Y1 S1 H1 B1
  generalize World.alloc w1 _ = w2 at *
  have BX3 := hid (Bx.new w2 #[.slice none 0 0, .slice none 0 0, .slice none 0 0, .slice none 0 0, .slice none 0 0, .slice none 0 0, .slice none 0 0] 29 (by decide))
  have A3 := hid (allocB w2 (.cells #[.slice none 0 0, .slice none 0 0, .slice none 0 0, .slice none 0 0, .slice none 0 0, .slice none 0 0, .slice none 0 0] 29))
  have SZ3 := hid (show (w2.alloc (.cells #[.slice none 0 0, .slice none 0 0, .slice none 0 0, .slice none 0 0, .slice none 0 0, .slice none 0 0, .slice none 0 0] 29)).heap.size = w2.heap.size + 1 from by simp)
  obtain ⟨B, hB⟩ : ∃ B, B = (w2.alloc (.cells #[.slice none 0 0, .slice none 0 0, .slice none 0 0, .slice none 0 0, .slice none 0 0, .slice none 0 0, .slice none 0 0] 29)).heap.size := ⟨_, rfl⟩
  obtain ⟨bx, hbx⟩ : ∃ x, x = w2.heap.size := ⟨_, rfl⟩
  have PL := hid (show Pl w0 B p q bx from by
    have h1 := SZ3.out; have h2 := PS.out; have h3 := HQ.out; have h4 := HP.out; have h5 := B2.out.size
    exact ⟨h4, by omega, by omega, by omega, by omega, by omega, by omega⟩)
  have D3 := hid (show Dc w0 (w2.alloc (.cells #[.slice none 0 0, .slice none 0 0, .slice none 0 0, .slice none 0 0, .slice none 0 0, .slice none 0 0, .slice none 0 0] 29)) B p q bx (.slice none 0 0) (.slice none 0 0) (.slice none 0 0) (.slice none 0 0) (.slice none 0 0) (.slice none 0 0) (.slice none 0 0) zP (mid bs, false) from
    ⟨RQ.out.below A3.out, nextB B2.out A3.out, by rw [hbx]; exact BX3.out, ⟨Qf.nil _ _ _ _ _, QT.nil _ _, Qf.nil _ _ _ _ _, Qf.nil _ _ _ _ _, Qf.nil _ _ _ _ _, Qf.nil _ _ _ _ _, Qf.nil _ _ _ _ _⟩, Nat.le_of_eq hB⟩)
  clear hB BX3 A3 SZ3 RQ HQ PS HP B2 YM
  go_upto_region 5 with fail
  rw [← hbx]
  clear hbx
  generalize World.alloc w2 _ = w3 at *
  have KN := hid (ref14_n_any D3.out.rd (show (mid bs).length ≤ 15000000 from by rw [ML.out]; omega))
  have NB1 : (cnt true (mid bs, false)).1 ≤ 3000 := Nat.le_trans (cnt_le _) (by show (mid bs).length ≤ 3000; rw [ML.out]; omega)
  have TL1 := hid (show (cnt true (mid bs, false)).2.1.length ≤ 3000 from Nat.le_trans (cnt_down _ _) (by show (mid bs).length ≤ 3000; rw [ML.out]; omega))
  obtain ⟨N1, hN1⟩ : ∃ N, N = (cnt true (mid bs, false)).1 := ⟨_, rfl⟩
  obtain ⟨t1, ht1⟩ : ∃ t, t = (cnt true (mid bs, false)).2 := ⟨_, rfl⟩
  rw [← hN1, ← ht1] at KN
  rw [← hN1] at NB1
  rw [← ht1] at TL1
  have EQ1 := hid (And.intro hN1 ht1)
  clear hN1 ht1
  go_upto_region 6 with (go_at_call 43; (with_reducible refine Calls.mono KN.out ?_); rintro e w4 ⟨rfl, r4⟩; have D4 := hid (D3.out.read PL.out r4); clear r4 KN)
  clear D3
  go_wp2_with fail
  go_loopg [7, 8, 9] N1 (fun g iv s8 s9 wr => ∃ (i : Nat) (xs : List (Int × Int)) (t : Sr) (u : Value), iv = .int .i64 (i : Nat) ∧ i ≤ N1 ∧ g = N1 - i ∧ Hid (Dc w0 wr B p q bx u (.slice none 0 0) (.slice none 0 0) (.slice none 0 0) (.slice none 0 0) (.slice none 0 0) (.slice none 0 0) (xs, [], [], [], [], [], []) t) ∧ Hid (rdN cC N1 t1 = (xs ++ (rdN cC (N1 - i) t).1, (rdN cC (N1 - i) t).2)) ∧ Hid (xs.length + t.1.length ≤ 3000 + (if t.2 = true then 1 else 0)))
  case atStart => exact ⟨0, [], t1, _, rfl, Nat.zero_le _, rfl, D4, hid (by simp), hid (by have := TL1.out; simp; omega)⟩
  case round =>
    obtain ⟨i, xs, t, u, rfl, hi, rfl, hD, hE, hL⟩ := hrel
    clear D4
    by_cases st : i < N1 ∧ t.2 = false
    · obtain ⟨l, b⟩ := t
      obtain rfl : b = false := st.2
      have c' : (i : Int) < (N1 : Int) := by omega
      have cb := hD.out.rd.bad
      have LL := hid (show l.length ≤ 3001 from by have h1 := hL.out; simp at h1; omega)
      have LX := hid (show xs.length ≤ 3001 from by have h1 := hL.out; simp at h1; omega)
      have E1 := hid (rl_eq (k := N1 - (i + 1)) (xs := xs) (l := l) (r := rdN cC N1 t1) (c := cC) (by rw [hE.out, show N1 - (i + 1) + 1 = N1 - i by omega]))
      have L1 := hid (rl_len cC_good hL.out)
      clear hE hL st
      have KI := hid (show Calls Tryd.prog 44 _ wr (fun e w' => e = .returned (.int .i64 (cI.rd (l, false)).1) ∧ Rd w' p q (cI.rd (l, false)).2.2 (cI.rd (l, false)).2.1 ∧ World.grownBy wr w' (some p)) from wI_any p q false l wr hD.out.rd (by have := LL.out; omega))
      go_upto_region 10 with (go_at_call 44; (with_reducible refine Calls.mono KI.out ?_); rintro e w5 ⟨rfl, r5, g5⟩; have D5 := hid (hD.out.read (t' := (cI.rd (l, false)).2) PL.out ⟨r5, g5⟩); clear r5 g5 KI)
      clear cb hD
      have LL2 := hid (show (cI.rd (l, false)).2.1.length ≤ 3001 from Nat.le_trans (cI_good.down (l, false)) LL.out)
      have KI := hid (show Calls Tryd.prog 44 _ w5 (fun e w' => e = .returned (.int .i64 (cI.rd (cI.rd (l, false)).2).1) ∧ Rd w' p q (cI.rd (cI.rd (l, false)).2).2.2 (cI.rd (cI.rd (l, false)).2).2.1 ∧ World.grownBy w5 w' (some p)) from wI_any p q _ _ w5 D5.out.rd (by have := LL2.out; omega))
      go_upto_region 11 with (go_at_call 44; (with_reducible refine Calls.mono KI.out ?_); rintro e w6 ⟨rfl, r6, g6⟩; have D6 := hid (D5.out.read (t' := (cC.rd (l, false)).2) PL.out ⟨r6, g6⟩); clear r6 g6 KI)
      clear D5
      have e0 := D6.out.box.cell 0 _ rfl
      have D7 := hid (D6.out.next (allocB w6 (.cells (fC (cC.rd (l, false)).1).toArray 62)))
      have C7 := hid (cells_new w6 (fC (cC.rd (l, false)).1) 62)
      have OB := hid (fun k e => (D7.out.fd.r0.ty k e).1)
      go_upto_region 8 with (at_builtin; refine wpList_addQ 62 23 3 40 (.agg #[.int .i64 0, .int .i64 0, .slice none 0 0]) fC rfl (.tmp 60) (.tmp 64) rfl Tryd.underlying23 info_Val rfl (by decide) (by decide) (fun _ => rfl) B _ xs (cC.rd (l, false)).1 rfl D7.out.fd.r0 (fun u hu => by simp [fC] at hu; rcases hu with rfl | rfl | rfl <;> rfl) w6.heap.size rfl C7.out (by have := LX.out; omega) D7.out.sz ?_; intro v8 w8 o8 g8; obtain ⟨a8, m8, c8, rfl⟩ := o8.slice3; have X8 := hid (D7.out.boxAt PL.out g8 OB.out); have y0 := X8.out.cell 0 _ rfl; have fz := X8.out.fz; have DZ := hid (Dc.add (i := 0) (v := .slice a8 m8 c8) D7.out PL.out g8 OB.out rfl (Fd.add0 D7.out.fd o8 g8)); clear o8 g8)
      clear e0 D6 D7 C7
      generalize World.setCell w8 _ _ = w9 at *
      go_wp2_with fail
      go_roundg (N1 - (i + 1))
      case measure => omega
      case rel => exact ⟨i + 1, _, _, _, by rw [Int.natCast_add]; rfl, by omega, rfl, DZ, E1, L1⟩
    · go_upto_region 7 with fail
      go_cut [48] from 38 to 48 (fun s wx => s = .bool false ∧ wx = wr)
      case first =>
        have cb := hD.out.rd.bad
        by_cases c : i < N1
        · have c' : (i : Int) < (N1 : Int) := by omega
          obtain ⟨l, b⟩ := t
          obtain rfl : b = true := by cases b with | true => rfl | false => exact absurd ⟨c, rfl⟩ st
          go_wp2_with fail
          go_meet
          exact ⟨rfl, rfl⟩
        · have c' : ¬ (i : Int) < (N1 : Int) := by omega
          go_wp2_with fail
          go_meet
          exact ⟨rfl, rfl⟩
      case rest =>
        obtain ⟨rfl, hwr⟩ := hcut
        obtain rfl : wr = wc := hwr.symm
        have FE := hid (show rdN cC N1 t1 = (xs, t) from by
          rw [hE.out]
          by_cases c : i < N1
          · have hb : t.2 = true := by cases hb : t.2 with | true => rfl | false => exact absurd ⟨c, hb⟩ st
            rw [rdN_bad _ _ _ hb]; simp
          · rw [show N1 - i = 0 by omega]; simp [rdN])
        have TL := hid (show t.1.length ≤ 3000 from by
          have h1 := rdN_down cC_good N1 t1
          rw [FE.out] at h1
          exact Nat.le_trans h1 TL1.out)
        clear hE hL st hi
        obtain ⟨we1, e⟩ : ∃ x, x = wr := ⟨_, rfl⟩
        subst e
        obtain ⟨u1, e⟩ : ∃ x, x = u := ⟨_, rfl⟩
        subst e
        obtain ⟨x1, e⟩ : ∃ x, x = xs := ⟨_, rfl⟩
        subst e
        obtain ⟨t1e, e⟩ : ∃ x, x = t := ⟨_, rfl⟩
        subst e
        have FE1 := FE
        clear FE
        have KN := hid (ref14_n_any hD.out.rd (show t1e.1.length ≤ 15000000 from by have := TL.out; omega))
        have NB2 : (cnt true t1e).1 ≤ 3000 := Nat.le_trans (cnt_le t1e) TL.out
        have TL2 := hid (show (cnt true t1e).2.1.length ≤ 3000 from Nat.le_trans (cnt_down _ _) TL.out)
        obtain ⟨N2, hN⟩ : ∃ N, N = (cnt true t1e).1 := ⟨_, rfl⟩
        obtain ⟨t2, ht⟩ : ∃ t, t = (cnt true t1e).2 := ⟨_, rfl⟩
        rw [← hN, ← ht] at KN
        rw [← hN] at NB2
        rw [← ht] at TL2
        have EQ2 := hid (And.intro hN ht)
        clear hN ht TL
        go_upto_region 13 with (go_at_call 43; (with_reducible refine Calls.mono KN.out ?_); rintro e w4 ⟨rfl, r4⟩; have DN2 := hid (hD.out.read PL.out r4); clear r4 KN)
        clear hD
        go_wp2_with fail
        go_loopg [10, 11] N2 (fun g iv s11 wr => ∃ (i : Nat) (xs : List (Int × Int × List Int × List Int)) (t : Sr) (u : Value), iv = .int .i64 (i : Nat) ∧ i ≤ N2 ∧ g = N2 - i ∧ Hid (Dc w0 wr B p q bx u1 u (.slice none 0 0) (.slice none 0 0) (.slice none 0 0) (.slice none 0 0) (.slice none 0 0) (x1, xs, [], [], [], [], []) t) ∧ Hid (rdN (cT true) N2 t2 = (xs ++ (rdN (cT true) (N2 - i) t).1, (rdN (cT true) (N2 - i) t).2)) ∧ Hid (xs.length + t.1.length ≤ 3000 + (if t.2 = true then 1 else 0)))
        case atStart => exact ⟨0, [], t2, _, rfl, Nat.zero_le _, rfl, DN2, hid (by simp), hid (by have := TL2.out; simp; omega)⟩
        case round =>
          obtain ⟨i, xs, t, u, rfl, hi, rfl, hD, hE, hL⟩ := hrel
          clear DN2
          by_cases st : i < N2 ∧ t.2 = false
          · obtain ⟨l, b⟩ := t
            obtain rfl : b = false := st.2
            have c' : (i : Int) < (N2 : Int) := by omega
            have cb := hD.out.rd.bad
            have LL := hid (show l.length ≤ 3001 from by have h1 := hL.out; simp at h1; omega)
            have LX := hid (show xs.length ≤ 3001 from by have h1 := hL.out; simp at h1; omega)
            have E1 := hid (rl_eq (k := N2 - (i + 1)) (xs := xs) (l := l) (r := rdN (cT true) N2 t2) (c := (cT true)) (by rw [hE.out, show N2 - (i + 1) + 1 = N2 - i by omega]))
            have L1 := hid (rl_len (cT_good true) hL.out)
            clear hE hL st
            have LB0 := hid (show (l, false).1.length ≤ 3001 from LL.out)
            have I0 := hid (show It wr (wr.alloc (.cells #[.int .i64 0, .int .i64 0, .slice none 0 0, .slice none 0 0] 59)) p q wr.heap.size 59 #[.int .i64 0, .int .i64 0, .slice none 0 0, .slice none 0 0] (l, false) from ⟨hD.out.rd.below (allocB wr _), fr_below ⟨rfl, rfl, rfl, Nat.le_refl _, fun _ _ _ => rfl⟩ (allocB wr _), Bx.new wr _ _ (by decide)⟩)
            obtain ⟨y, hy⟩ : ∃ y, y = wr.heap.size := ⟨_, rfl⟩
            have YP := hid (show y ≠ p ∧ y ≠ q ∧ wr.heap.size ≤ y from by
              have h1 := PL.out.p1; have h2 := PL.out.q1; have h3 := hD.out.sz
              exact ⟨by omega, by omega, by omega⟩)
            rw [← hy] at I0
            go_upto_region 17 with fail
            rw [← hy]
            clear cb hy
            generalize World.alloc wr _ = w0i at *
            have KI := hid (show Calls Tryd.prog 44 _ w0i (fun e w' => e = .returned (.int .i64 (cI.rd (l, false)).1) ∧ Rd w' p q (cI.rd (l, false)).2.2 (cI.rd (l, false)).2.1 ∧ World.grownBy w0i w' (some p)) from wI_any p q _ _ w0i I0.out.rd (by have := LB0.out; omega))
            have LB1 := hid (show (cI.rd (l, false)).2.1.length ≤ 3001 from Nat.le_trans (cI_good.down (l, false)) LB0.out)
            go_upto_region 18 with (go_at_call 44; (with_reducible refine Calls.mono KI.out ?_); rintro e w0z ⟨rfl, r5, g5⟩; have J0 := hid (I0.out.read (t' := (cI.rd (l, false)).2) YP.out.1.symm ⟨r5, g5⟩); have z0 := J0.out.box.cell 0 _ rfl; have fz := J0.out.box.fz; have I1 := hid (J0.out.set (i := 0) (cs' := #[(.int .i64 (cI.rd (l, false)).1), .int .i64 0, .slice none 0 0, .slice none 0 0]) (.int .i64 (cI.rd (l, false)).1) YP.out.1 YP.out.2.1 YP.out.2.2 rfl); clear r5 g5 KI)
            clear J0 z0 fz I0
            generalize World.setCell w0z _ _ = w1i at *
            have KI := hid (show Calls Tryd.prog 44 _ w1i (fun e w' => e = .returned (.int .i64 (cI.rd (cI.rd (l, false)).2).1) ∧ Rd w' p q (cI.rd (cI.rd (l, false)).2).2.2 (cI.rd (cI.rd (l, false)).2).2.1 ∧ World.grownBy w1i w' (some p)) from wI_any p q _ _ w1i I1.out.rd (by have := LB1.out; omega))
            have LB2 := hid (show (cI.rd (cI.rd (l, false)).2).2.1.length ≤ 3001 from Nat.le_trans (cI_good.down (cI.rd (l, false)).2) LB1.out)
            go_upto_region 19 with (go_at_call 44; (with_reducible refine Calls.mono KI.out ?_); rintro e w1z ⟨rfl, r5, g5⟩; have J1 := hid (I1.out.read (t' := (cI.rd (cI.rd (l, false)).2).2) YP.out.1.symm ⟨r5, g5⟩); have z0 := J1.out.box.cell 1 _ rfl; have fz := J1.out.box.fz; have I2 := hid (J1.out.set (i := 1) (cs' := #[(.int .i64 (cI.rd (l, false)).1), (.int .i64 (cI.rd (cI.rd (l, false)).2).1), .slice none 0 0, .slice none 0 0]) (.int .i64 (cI.rd (cI.rd (l, false)).2).1) YP.out.1 YP.out.2.1 YP.out.2.2 rfl); clear r5 g5 KI)
            clear J1 z0 fz I1
            generalize World.setCell w1z _ _ = w2i at *
            have KI := hid (ref14_reader_ints_any (s := (cI.rd (cI.rd (l, false)).2).2) I2.out.rd (by have := LB2.out; omega) (Nat.lt_of_lt_of_le PL.out.q1 (Nat.le_trans hD.out.sz I2.out.fr.size)))
            have LB3 := hid (show ((cL true cI).rd (cI.rd (cI.rd (l, false)).2).2).2.1.length ≤ 3001 from Nat.le_trans ((cL_good cI_good).down (cI.rd (cI.rd (l, false)).2).2) LB2.out)
            go_upto_region 20 with (go_at_call 45; (with_reducible refine Calls.mono KI.out ?_); rintro e w2z ⟨nv2, rfl, nq2, r5⟩; obtain ⟨na2, nm2, nc2, rfl⟩ := nq2.slice3; have R5 := hid r5; have J2 := hid (I2.out.read (t' := ((cL true cI).rd (cI.rd (cI.rd (l, false)).2).2).2) YP.out.1.symm r5); have z0 := J2.out.box.cell 2 _ rfl; have fz := J2.out.box.fz; have I3 := hid (J2.out.set (i := 2) (cs' := #[(.int .i64 (cI.rd (l, false)).1), (.int .i64 (cI.rd (cI.rd (l, false)).2).1), .slice na2 nm2 nc2, .slice none 0 0]) (.slice na2 nm2 nc2) YP.out.1 YP.out.2.1 YP.out.2.2 rfl); have YL2 := hid (show y < w2i.heap.size from (Array.getElem?_eq_some_iff.1 I2.out.box.at_).1); have SZ2 := hid (Nat.le_trans hD.out.sz I2.out.fr.size); have NQ2 := hid ((nq2.set (r := y) (i := 2) (.slice na2 nm2 nc2) YL2.out).mono SZ2.out); clear r5 KI nq2)
            clear J2 z0 fz I2 R5
            generalize World.setCell w2z _ _ = w3i at *
            have KI := hid (ref14_reader_ints_any (s := ((cL true cI).rd (cI.rd (cI.rd (l, false)).2).2).2) I3.out.rd (by have := LB3.out; omega) (Nat.lt_of_lt_of_le PL.out.q1 (Nat.le_trans hD.out.sz I3.out.fr.size)))
            have LB4 := hid (show ((cL true cI).rd ((cL true cI).rd (cI.rd (cI.rd (l, false)).2).2).2).2.1.length ≤ 3001 from Nat.le_trans ((cL_good cI_good).down ((cL true cI).rd (cI.rd (cI.rd (l, false)).2).2).2) LB3.out)
            go_upto_region 21 with (go_at_call 45; (with_reducible refine Calls.mono KI.out ?_); rintro e w3z ⟨nv3, rfl, nq3, r5⟩; obtain ⟨na3, nm3, nc3, rfl⟩ := nq3.slice3; have R5 := hid r5; have J3 := hid (I3.out.read (t' := ((cL true cI).rd ((cL true cI).rd (cI.rd (cI.rd (l, false)).2).2).2).2) YP.out.1.symm r5); have z0 := J3.out.box.cell 3 _ rfl; have fz := J3.out.box.fz; have I4 := hid (J3.out.set (i := 3) (cs' := #[(.int .i64 (cI.rd (l, false)).1), (.int .i64 (cI.rd (cI.rd (l, false)).2).1), .slice na2 nm2 nc2, .slice na3 nm3 nc3]) (.slice na3 nm3 nc3) YP.out.1 YP.out.2.1 YP.out.2.2 rfl); have YL3 := hid (show y < w3i.heap.size from (Array.getElem?_eq_some_iff.1 I3.out.box.at_).1); have SZ3 := hid (Nat.le_trans hD.out.sz I3.out.fr.size); have NQ3 := hid ((nq3.set (r := y) (i := 3) (.slice na3 nm3 nc3) YL3.out).mono SZ3.out); have NQ2' := hid (NQ2.out.but R5.out.fr PL.out.p1); have NQ2b := hid (NQ2'.out.kept (w' := w3z.setCell ⟨y, 3, none⟩ (.slice na3 nm3 nc3)) (fun i hi l ⟨cs, fr, e⟩ => (grownBy_setCell w3z y 3 (.slice na3 nm3 nc3)).block i l (fun e2 => by injection e2 with e2; subst e2; have := J3.out.box.at_; rw [e] at this; injection this with this; injection this with _ h2 _; revert h2; decide))); clear r5 KI nq3)
            clear J3 z0 fz I3 R5
            generalize World.setCell w3z _ _ = w4i at *
            have D6 := hid (hD.out.read (t' := ((cT true).rd (l, false)).2) PL.out ⟨I4.out.rd, I4.out.fr⟩)
            have e0 := D6.out.box.cell 1 _ rfl
            have z0 := I4.out.box.cell 0 _ rfl
            have z1 := I4.out.box.cell 1 _ rfl
            have z2 := I4.out.box.cell 2 _ rfl
            have z3 := I4.out.box.cell 3 _ rfl
            have al := allocB w4i (.cells (fT (((cT true).rd (l, false)).1, Value.slice na2 nm2 nc2, Value.slice na3 nm3 nc3)).toArray 59)
            have D7 := hid (D6.out.next al)
            have M2 := hid (NQ2b.out.next al)
            have M3 := hid (NQ3.out.next al)
            have C7 := hid (cells_new w4i (fT (((cT true).rd (l, false)).1, Value.slice na2 nm2 nc2, Value.slice na3 nm3 nc3)) 59)
            obtain ⟨R, hR1, hR2, hR3⟩ := D7.out.fd.r1.ex
            have R2 := hid hR2
            have R3 := hid (And.intro hR1 hR3)
            have LR := hid (show R.length ≤ 3001 from by have h1 := LX.out; have h2 := congrArg List.length (show R.map Prod.fst = xs from hR1); rw [List.length_map] at h2; omega)
            have OB := hid (fun k e => (R2.out.ty k e).1)
            clear hD al hR1 hR2 hR3
            go_upto_region 15 with (at_builtin; refine wpList_addQ 59 24 4 64 (.agg #[.int .i64 0, .int .i64 0, .slice none 0 0, .slice none 0 0]) fT rfl (.tmp 100) (.tmp 102) rfl Tryd.underlying24 info_Tab rfl (by decide) (by decide) (fun _ => rfl) B _ R (((cT true).rd (l, false)).1, Value.slice na2 nm2 nc2, Value.slice na3 nm3 nc3) rfl R2.out (fun u hu => by simp [fT] at hu; rcases hu with rfl | rfl | rfl | rfl <;> rfl) w4i.heap.size rfl C7.out (by have := LR.out; omega) D7.out.sz ?_; intro v8 w8 o8 g8; obtain ⟨a8, m8, c8, rfl⟩ := o8.slice3; have X8 := hid (D7.out.boxAt PL.out g8 OB.out); have y0 := X8.out.cell 1 _ rfl; have fz := X8.out.fz; have DZ := hid (Dc.add (i := 1) (v := .slice a8 m8 c8) D7.out PL.out g8 OB.out rfl (Fd.add1 D7.out.fd R2.out (QT.add R2.out R3.out.1 R3.out.2 M2.out M3.out o8 g8) g8)); clear o8 g8)
            clear e0 D6 D7 C7 z0 z1 z2 z3 I4
            generalize World.setCell w8 _ _ = w9 at *
            go_wp2_with fail
            go_roundg (N2 - (i + 1))
            case measure => omega
            case rel => exact ⟨i + 1, _, _, _, by rw [Int.natCast_add]; rfl, by omega, rfl, DZ, E1, L1⟩
          · go_upto_region 14 with fail
            go_cut [79] from 69 to 79 (fun s wx => s = .bool false ∧ wx = wr)
            case first =>
              have cb := hD.out.rd.bad
              by_cases c : i < N2
              · have c' : (i : Int) < (N2 : Int) := by omega
                obtain ⟨l, b⟩ := t
                obtain rfl : b = true := by cases b with | true => rfl | false => exact absurd ⟨c, rfl⟩ st
                go_wp2_with fail
                go_meet
                exact ⟨rfl, rfl⟩
              · have c' : ¬ (i : Int) < (N2 : Int) := by omega
                go_wp2_with fail
                go_meet
                exact ⟨rfl, rfl⟩
            case rest =>
              obtain ⟨rfl, hwr⟩ := hcut
              obtain rfl : wr = wc := hwr.symm
              have FE := hid (show rdN (cT true) N2 t2 = (xs, t) from by
                rw [hE.out]
                by_cases c : i < N2
                · have hb : t.2 = true := by cases hb : t.2 with | true => rfl | false => exact absurd ⟨c, hb⟩ st
                  rw [rdN_bad _ _ _ hb]; simp
                · rw [show N2 - i = 0 by omega]; simp [rdN])
              have TL := hid (show t.1.length ≤ 3000 from by
                have h1 := rdN_down (cT_good true) N2 t2
                rw [FE.out] at h1
                exact Nat.le_trans h1 TL2.out)
              clear hE hL st hi
              obtain ⟨we2, e⟩ : ∃ x, x = wr := ⟨_, rfl⟩
              subst e
              obtain ⟨u2, e⟩ : ∃ x, x = u := ⟨_, rfl⟩
              subst e
              obtain ⟨x2, e⟩ : ∃ x, x = xs := ⟨_, rfl⟩
              subst e
              obtain ⟨t2e, e⟩ : ∃ x, x = t := ⟨_, rfl⟩
              subst e
              have FE2 := FE
              have TLk := TL
              clear FE TL
              have KI := hid (ref14_reader_kinds_any (s := t2e) hD.out.rd (by have := TLk.out; omega) (Nat.lt_of_lt_of_le PL.out.q1 hD.out.sz))
              have SZ2 := hid hD.out.sz
              replace TLk := hid (show ((cL true cI).rd t2e).2.1.length ≤ 3000 from Nat.le_trans ((cL_good cI_good).down t2e) TLk.out)
              go_upto_region 23 with (go_at_call 46; (with_reducible refine Calls.mono KI.out ?_); rintro e wk2 ⟨kv2, rfl, kq2, r5⟩; obtain ⟨ka2, km2, kc2, rfl⟩ := kq2.slice3; have DK2 := hid (hD.out.read (t' := ((cL true cI).rd t2e).2) PL.out r5); have z0 := DK2.out.box.cell 2 _ rfl; have fz := DK2.out.box.fz; have DP2 := hid (Dc.put (i := 2) (v := .slice ka2 km2 kc2) DK2.out PL.out rfl (show Fd wk2 B u1 u2 (.slice ka2 km2 kc2) (.slice none 0 0) (.slice none 0 0) (.slice none 0 0) (.slice none 0 0) (x1, x2, ((cL true cI).rd t2e).1, [], [], [], []) from ⟨DK2.out.fd.r0, DK2.out.fd.r1, (kq2.mono SZ2.out), DK2.out.fd.r3, DK2.out.fd.r4, DK2.out.fd.r5, DK2.out.fd.r6⟩)); clear r5 KI kq2)
              clear DK2 z0 fz hD
              generalize World.setCell wk2 _ _ = wp2 at *
              have KI := hid (ref14_reader_kinds_any (s := ((cL true cI).rd t2e).2) DP2.out.rd (by have := TLk.out; omega) (Nat.lt_of_lt_of_le PL.out.q1 DP2.out.sz))
              have SZ3 := hid DP2.out.sz
              replace TLk := hid (show ((cL true cI).rd ((cL true cI).rd t2e).2).2.1.length ≤ 3000 from Nat.le_trans ((cL_good cI_good).down ((cL true cI).rd t2e).2) TLk.out)
              go_upto_region 24 with (go_at_call 46; (with_reducible refine Calls.mono KI.out ?_); rintro e wk3 ⟨kv3, rfl, kq3, r5⟩; obtain ⟨ka3, km3, kc3, rfl⟩ := kq3.slice3; have DK3 := hid (DP2.out.read (t' := ((cL true cI).rd ((cL true cI).rd t2e).2).2) PL.out r5); have z0 := DK3.out.box.cell 3 _ rfl; have fz := DK3.out.box.fz; have DP3 := hid (Dc.put (i := 3) (v := .slice ka3 km3 kc3) DK3.out PL.out rfl (show Fd wk3 B u1 u2 (.slice ka2 km2 kc2) (.slice ka3 km3 kc3) (.slice none 0 0) (.slice none 0 0) (.slice none 0 0) (x1, x2, ((cL true cI).rd t2e).1, ((cL true cI).rd ((cL true cI).rd t2e).2).1, [], [], []) from ⟨DK3.out.fd.r0, DK3.out.fd.r1, DK3.out.fd.r2, (kq3.mono SZ3.out), DK3.out.fd.r4, DK3.out.fd.r5, DK3.out.fd.r6⟩)); clear r5 KI kq3)
              clear DK3 z0 fz DP2
              generalize World.setCell wk3 _ _ = wp3 at *
              have KI := hid (ref14_reader_kinds_any (s := ((cL true cI).rd ((cL true cI).rd t2e).2).2) DP3.out.rd (by have := TLk.out; omega) (Nat.lt_of_lt_of_le PL.out.q1 DP3.out.sz))
              have SZ4 := hid DP3.out.sz
              replace TLk := hid (show ((cL true cI).rd ((cL true cI).rd ((cL true cI).rd t2e).2).2).2.1.length ≤ 3000 from Nat.le_trans ((cL_good cI_good).down ((cL true cI).rd ((cL true cI).rd t2e).2).2) TLk.out)
              go_upto_region 25 with (go_at_call 46; (with_reducible refine Calls.mono KI.out ?_); rintro e wk4 ⟨kv4, rfl, kq4, r5⟩; obtain ⟨ka4, km4, kc4, rfl⟩ := kq4.slice3; have DK4 := hid (DP3.out.read (t' := ((cL true cI).rd ((cL true cI).rd ((cL true cI).rd t2e).2).2).2) PL.out r5); have z0 := DK4.out.box.cell 4 _ rfl; have fz := DK4.out.box.fz; have DP4 := hid (Dc.put (i := 4) (v := .slice ka4 km4 kc4) DK4.out PL.out rfl (show Fd wk4 B u1 u2 (.slice ka2 km2 kc2) (.slice ka3 km3 kc3) (.slice ka4 km4 kc4) (.slice none 0 0) (.slice none 0 0) (x1, x2, ((cL true cI).rd t2e).1, ((cL true cI).rd ((cL true cI).rd t2e).2).1, ((cL true cI).rd ((cL true cI).rd ((cL true cI).rd t2e).2).2).1, [], []) from ⟨DK4.out.fd.r0, DK4.out.fd.r1, DK4.out.fd.r2, DK4.out.fd.r3, (kq4.mono SZ4.out), DK4.out.fd.r5, DK4.out.fd.r6⟩)); clear r5 KI kq4)
              clear DK4 z0 fz DP3
              generalize World.setCell wk4 _ _ = wp4 at *
              obtain ⟨u3, hu⟩ : ∃ x, x = (Value.slice ka2 km2 kc2) := ⟨_, rfl⟩
              rw [← hu] at DP4
              clear hu
              obtain ⟨u4, hu⟩ : ∃ x, x = (Value.slice ka3 km3 kc3) := ⟨_, rfl⟩
              rw [← hu] at DP4
              clear hu
              obtain ⟨u5, hu⟩ : ∃ x, x = (Value.slice ka4 km4 kc4) := ⟨_, rfl⟩
              rw [← hu] at DP4
              clear hu
              obtain ⟨x3, hx3⟩ : ∃ x, x = ((cL true cI).rd t2e).1 := ⟨_, rfl⟩
              rw [← hx3] at DP4
              have HX3 := hid hx3
              clear hx3
              obtain ⟨x4, hx4⟩ : ∃ x, x = ((cL true cI).rd ((cL true cI).rd t2e).2).1 := ⟨_, rfl⟩
              rw [← hx4] at DP4
              have HX4 := hid hx4
              clear hx4
              obtain ⟨x5, hx5⟩ : ∃ x, x = ((cL true cI).rd ((cL true cI).rd ((cL true cI).rd t2e).2).2).1 := ⟨_, rfl⟩
              rw [← hx5] at DP4
              have HX5 := hid hx5
              clear hx5
              obtain ⟨t2k, htk⟩ : ∃ x, x = ((cL true cI).rd ((cL true cI).rd ((cL true cI).rd t2e).2).2).2 := ⟨_, rfl⟩
              rw [← htk] at DP4 TLk
              have HTK := hid htk
              clear htk
              have KN := hid (ref14_n_any DP4.out.rd (show t2k.1.length ≤ 15000000 from by have := TLk.out; omega))
              have NB3 : (cnt true t2k).1 ≤ 3000 := Nat.le_trans (cnt_le t2k) TLk.out
              have TL3 := hid (show (cnt true t2k).2.1.length ≤ 3000 from Nat.le_trans (cnt_down _ _) TLk.out)
              obtain ⟨N3, hN⟩ : ∃ N, N = (cnt true t2k).1 := ⟨_, rfl⟩
              obtain ⟨t3, ht⟩ : ∃ t, t = (cnt true t2k).2 := ⟨_, rfl⟩
              rw [← hN, ← ht] at KN
              rw [← hN] at NB3
              rw [← ht] at TL3
              have EQ3 := hid (And.intro hN ht)
              clear hN ht TLk
              go_upto_region 26 with (go_at_call 43; (with_reducible refine Calls.mono KN.out ?_); rintro e w4 ⟨rfl, r4⟩; have DN3 := hid (DP4.out.read PL.out r4); clear r4 KN)
              clear DP4
              go_wp2_with fail
              go_loopg [12] N3 (fun g iv  wr => ∃ (i : Nat) (xs : List (List Int)) (t : Sr) (u : Value), iv = .int .i64 (i : Nat) ∧ i ≤ N3 ∧ g = N3 - i ∧ Hid (Dc w0 wr B p q bx u1 u2 u3 u4 u5 u (.slice none 0 0) (x1, x2, x3, x4, x5, xs, []) t) ∧ Hid (rdN cS N3 t3 = (xs ++ (rdN cS (N3 - i) t).1, (rdN cS (N3 - i) t).2)) ∧ Hid (xs.length + t.1.length ≤ 3000 + (if t.2 = true then 1 else 0)))
              case atStart => exact ⟨0, [], t3, _, rfl, Nat.zero_le _, rfl, DN3, hid (by simp), hid (by have := TL3.out; simp; omega)⟩
              case round =>
                obtain ⟨i, xs, t, u, rfl, hi, rfl, hD, hE, hL⟩ := hrel
                clear DN3
                by_cases st : i < N3 ∧ t.2 = false
                · obtain ⟨l, b⟩ := t
                  obtain rfl : b = false := st.2
                  have c' : (i : Int) < (N3 : Int) := by omega
                  have cb := hD.out.rd.bad
                  have LL := hid (show l.length ≤ 3001 from by have h1 := hL.out; simp at h1; omega)
                  have LX := hid (show xs.length ≤ 3001 from by have h1 := hL.out; simp at h1; omega)
                  have E1 := hid (rl_eq (k := N3 - (i + 1)) (xs := xs) (l := l) (r := rdN cS N3 t3) (c := cS) (by rw [hE.out, show N3 - (i + 1) + 1 = N3 - i by omega]))
                  have L1 := hid (rl_len cS_good hL.out)
                  clear hE hL st
                  go_upto_region 29 with fail
                  clear cb
                  refine wp_region_held_drew (S := fun _ => True) (by kernel_rfl) trivial (fun hHeld => ?_)
                  have DD := hid (hD.out.next (Below.refl _ _).drew)
                  clear hD
                  generalize wr.drew = wz at *
                  refine tk 0 (.pointer (some ⟨bx, 5, none⟩)) 129 rfl rfl rfl (by kernel_rfl) (fun _ _ _ h => h) (by rfl) hHeld ?_ ?_
                  · (intro W hW; (try dsimp only at hW); go_simp)
                  try simp only [Act.put, List.setIfInBounds_toArray, List.set_cons_zero, List.set_cons_succ]
                  refine tk 2 (.pointer (some ⟨p, 0, none⟩)) 131 rfl rfl rfl (by kernel_rfl) (fun _ _ _ h => h) (by rfl) hHeld ?_ ?_
                  · (intro W hW; (try dsimp only at hW); go_simp)
                  try simp only [Act.put, List.setIfInBounds_toArray, List.set_cons_zero, List.set_cons_succ]
                  refine tk 3 (.pointer (some ⟨p, 0, none⟩)) 132 rfl rfl rfl (by kernel_rfl) (fun _ _ _ h => h) (by rfl) hHeld ?_ ?_
                  · (intro W hW; (try dsimp only at hW); go_simp)
                  try simp only [Act.put, List.setIfInBounds_toArray, List.set_cons_zero, List.set_cons_succ]
                  refine tk 4 (.pointer (some ⟨p, 0, none⟩)) 133 rfl rfl rfl (by kernel_rfl) (fun _ _ _ h => h) (by rfl) hHeld ?_ ?_
                  · (intro W hW; (try dsimp only at hW); go_simp)
                  try simp only [Act.put, List.setIfInBounds_toArray, List.set_cons_zero, List.set_cons_succ]
                  refine wpAnyH_ready (rs := [1, 5]) (by kernel_rfl) (by simp) ?_
                  refine cons22 rfl rfl rfl (fun K9 hK => ?_) (fun K9 hK => ?_)
                  · have e0 := DD.out.box.cell 5 _ rfl
                    go_simp
                    refine hK.out _ _ trivial (fun hX => ?_)
                    clear hK K9 hHeld
                    have hHeld := hX
                    clear hX
                    try simp only [Act.put, List.setIfInBounds_toArray, List.set_cons_zero, List.set_cons_succ]
                    refine wpAnyH_ready (rs := [5]) (by kernel_rfl) (by simp) ?_
                    refine cons2 rfl rfl (fun K9 hK => ?_)
                    go_simp
                    have KI := hid (show Calls Tryd.prog 47 _ wz (fun e w' => e = .returned (.string (strOfNums (cS.rd (l, false)).1)) ∧ Rd w' p q (cS.rd (l, false)).2.2 (cS.rd (l, false)).2.1 ∧ World.grownBy wz w' (some p)) from wS_any p q false l wz DD.out.rd (by have := LL.out; omega))
                    refine Calls.mono KI.out ?_
                    rintro e w5 ⟨rfl, r5, g5⟩
                    have D5 := hid (DD.out.read (t' := (cS.rd (l, false)).2) PL.out ⟨r5, g5⟩)
                    clear r5 g5 KI
                    go_wp2_with fail
                    refine hK.out _ _ trivial (fun hX => ?_)
                    clear hK K9 hHeld
                    have hHeld := hX
                    clear hX
                    try simp only [Act.put, List.setIfInBounds_toArray, List.set_cons_zero, List.set_cons_succ]
                    refine wpAnyH_ready (rs := [6]) (by kernel_rfl) (by simp) ?_
                    refine cons2 rfl rfl (fun K9 hK => ?_)
                    have D7 := hid (D5.out.next (allocB w5 (.cells (fS (cS.rd (l, false)).1).toArray 9)))
                    have C7 := hid (cells_new w5 (fS (cS.rd (l, false)).1) 9)
                    go_simp
                    refine hK.out _ _ trivial (fun hX => ?_)
                    clear hK K9 hHeld
                    have hHeld := hX
                    clear hX
                    try simp only [Act.put, List.setIfInBounds_toArray, List.set_cons_zero, List.set_cons_succ]
                    generalize hgb : w5.heap.size = gb at *
                    replace D7 := hid (show Dc w0 (w5.alloc (.cells #[.string (strOfNums (cS.rd (l, false)).1)] 9)) B p q bx u1 u2 u3 u4 u5 u (.slice none 0 0) (x1, x2, x3, x4, x5, xs, []) (cS.rd (l, false)).2 from D7.out)
                    replace C7 := hid (show ∀ j v, (fS (cS.rd (l, false)).1)[j]? = some v → (w5.alloc (.cells #[.string (strOfNums (cS.rd (l, false)).1)] 9)).cell? ⟨gb, j, none⟩ = some v from C7.out)
                    clear hgb
                    generalize World.alloc w5 _ = w7 at *
                    have OB := hid (fun k e => (D7.out.fd.r5.ty k e).1)
                    refine wpAnyH_ready (rs := [7]) (by kernel_rfl) (by simp) ?_
                    refine cons2 rfl rfl (fun K9 hK => ?_)
                    refine step_addQ 9 26 1 16 (.string ⟨#[]⟩) fS rfl (.tmp 130) (.tmp 135) rfl Tryd.underlying26 info_Str rfl (by decide) (by decide) (fun _ => rfl) B _ xs (cS.rd (l, false)).1 rfl D7.out.fd.r5 (fun u hu => by simp [fS] at hu; subst hu; rfl) gb rfl C7.out (by have := LX.out; omega) D7.out.sz (fun v8 w8 o8 g8 => ?_)
                    obtain ⟨a8, m8, c8, rfl⟩ := o8.slice3
                    have X8 := hid (D7.out.boxAt PL.out g8 OB.out)
                    have y0 := X8.out.cell 5 _ rfl
                    have fz := X8.out.fz
                    have DZ := hid (Dc.add (i := 5) (v := .slice a8 m8 c8) D7.out PL.out g8 OB.out rfl (Fd.add5 D7.out.fd o8 g8))
                    clear o8 g8
                    refine hK.out _ _ trivial (fun hX => ?_)
                    clear hK K9 hHeld
                    have hHeld := hX
                    clear hX
                    try simp only [Act.put, List.setIfInBounds_toArray, List.set_cons_zero, List.set_cons_succ]
                    refine wpAnyH_ready (rs := [8]) (by kernel_rfl) (by simp) ?_
                    refine cons2 rfl rfl (fun K9 hK => ?_)
                    go_simp
                    refine hK.out _ _ trivial (fun hX => ?_)
                    clear hK K9 hHeld
                    have hHeld := hX
                    clear hX
                    try simp only [Act.put, List.setIfInBounds_toArray, List.set_cons_zero, List.set_cons_succ]
                    refine wpAnyH_ready (rs := [9]) (by kernel_rfl) (by simp) ?_
                    refine cons2 rfl rfl (fun K9 hK => ?_)
                    go_simp
                    refine hK.out _ _ trivial (fun hX => ?_)
                    clear hK K9 hHeld
                    have hHeld := hX
                    clear hX
                    try simp only [Act.put, List.setIfInBounds_toArray, List.set_cons_zero, List.set_cons_succ]
                    refine wpAnyH_done (by kernel_rfl) ?_ _
                    generalize World.setCell w8 _ _ = w9 at *
                    clear fz y0 X8
                    go_wp2_with fail
                    go_roundg (N3 - (i + 1))
                    case measure => omega
                    case rel => exact ⟨i + 1, _, _, _, by rw [Int.natCast_add]; rfl, by omega, rfl, DZ, E1, L1⟩
                  · go_simp
                    have KI := hid (show Calls Tryd.prog 47 _ wz (fun e w' => e = .returned (.string (strOfNums (cS.rd (l, false)).1)) ∧ Rd w' p q (cS.rd (l, false)).2.2 (cS.rd (l, false)).2.1 ∧ World.grownBy wz w' (some p)) from wS_any p q false l wz DD.out.rd (by have := LL.out; omega))
                    refine Calls.mono KI.out ?_
                    rintro e w5 ⟨rfl, r5, g5⟩
                    have D5 := hid (DD.out.read (t' := (cS.rd (l, false)).2) PL.out ⟨r5, g5⟩)
                    clear r5 g5 KI
                    go_wp2_with fail
                    refine hK.out _ _ trivial (fun hX => ?_)
                    clear hK K9 hHeld
                    have hHeld := hX
                    clear hX
                    try simp only [Act.put, List.setIfInBounds_toArray, List.set_cons_zero, List.set_cons_succ]
                    refine wpAnyH_ready (rs := [1, 6]) (by kernel_rfl) (by simp) ?_
                    refine cons22 rfl rfl rfl (fun K9 hK => ?_) (fun K9 hK => ?_)
                    · have e0 := D5.out.box.cell 5 _ rfl
                      go_simp
                      refine hK.out _ _ trivial (fun hX => ?_)
                      clear hK K9 hHeld
                      have hHeld := hX
                      clear hX
                      try simp only [Act.put, List.setIfInBounds_toArray, List.set_cons_zero, List.set_cons_succ]
                      refine wpAnyH_ready (rs := [6]) (by kernel_rfl) (by simp) ?_
                      refine cons2 rfl rfl (fun K9 hK => ?_)
                      have D7 := hid (D5.out.next (allocB w5 (.cells (fS (cS.rd (l, false)).1).toArray 9)))
                      have C7 := hid (cells_new w5 (fS (cS.rd (l, false)).1) 9)
                      go_simp
                      refine hK.out _ _ trivial (fun hX => ?_)
                      clear hK K9 hHeld
                      have hHeld := hX
                      clear hX
                      try simp only [Act.put, List.setIfInBounds_toArray, List.set_cons_zero, List.set_cons_succ]
                      generalize hgb : w5.heap.size = gb at *
                      replace D7 := hid (show Dc w0 (w5.alloc (.cells #[.string (strOfNums (cS.rd (l, false)).1)] 9)) B p q bx u1 u2 u3 u4 u5 u (.slice none 0 0) (x1, x2, x3, x4, x5, xs, []) (cS.rd (l, false)).2 from D7.out)
                      replace C7 := hid (show ∀ j v, (fS (cS.rd (l, false)).1)[j]? = some v → (w5.alloc (.cells #[.string (strOfNums (cS.rd (l, false)).1)] 9)).cell? ⟨gb, j, none⟩ = some v from C7.out)
                      clear hgb
                      generalize World.alloc w5 _ = w7 at *
                      have OB := hid (fun k e => (D7.out.fd.r5.ty k e).1)
                      refine wpAnyH_ready (rs := [7]) (by kernel_rfl) (by simp) ?_
                      refine cons2 rfl rfl (fun K9 hK => ?_)
                      refine step_addQ 9 26 1 16 (.string ⟨#[]⟩) fS rfl (.tmp 130) (.tmp 135) rfl Tryd.underlying26 info_Str rfl (by decide) (by decide) (fun _ => rfl) B _ xs (cS.rd (l, false)).1 rfl D7.out.fd.r5 (fun u hu => by simp [fS] at hu; subst hu; rfl) gb rfl C7.out (by have := LX.out; omega) D7.out.sz (fun v8 w8 o8 g8 => ?_)
                      obtain ⟨a8, m8, c8, rfl⟩ := o8.slice3
                      have X8 := hid (D7.out.boxAt PL.out g8 OB.out)
                      have y0 := X8.out.cell 5 _ rfl
                      have fz := X8.out.fz
                      have DZ := hid (Dc.add (i := 5) (v := .slice a8 m8 c8) D7.out PL.out g8 OB.out rfl (Fd.add5 D7.out.fd o8 g8))
                      clear o8 g8
                      refine hK.out _ _ trivial (fun hX => ?_)
                      clear hK K9 hHeld
                      have hHeld := hX
                      clear hX
                      try simp only [Act.put, List.setIfInBounds_toArray, List.set_cons_zero, List.set_cons_succ]
                      refine wpAnyH_ready (rs := [8]) (by kernel_rfl) (by simp) ?_
                      refine cons2 rfl rfl (fun K9 hK => ?_)
                      go_simp
                      refine hK.out _ _ trivial (fun hX => ?_)
                      clear hK K9 hHeld
                      have hHeld := hX
                      clear hX
                      try simp only [Act.put, List.setIfInBounds_toArray, List.set_cons_zero, List.set_cons_succ]
                      refine wpAnyH_ready (rs := [9]) (by kernel_rfl) (by simp) ?_
                      refine cons2 rfl rfl (fun K9 hK => ?_)
                      go_simp
                      refine hK.out _ _ trivial (fun hX => ?_)
                      clear hK K9 hHeld
                      have hHeld := hX
                      clear hX
                      try simp only [Act.put, List.setIfInBounds_toArray, List.set_cons_zero, List.set_cons_succ]
                      refine wpAnyH_done (by kernel_rfl) ?_ _
                      generalize World.setCell w8 _ _ = w9 at *
                      clear fz y0 X8
                      go_wp2_with fail
                      go_roundg (N3 - (i + 1))
                      case measure => omega
                      case rel => exact ⟨i + 1, _, _, _, by rw [Int.natCast_add]; rfl, by omega, rfl, DZ, E1, L1⟩
                    · have D7 := hid (D5.out.next (allocB w5 (.cells (fS (cS.rd (l, false)).1).toArray 9)))
                      have C7 := hid (cells_new w5 (fS (cS.rd (l, false)).1) 9)
                      go_simp
                      refine hK.out _ _ trivial (fun hX => ?_)
                      clear hK K9 hHeld
                      have hHeld := hX
                      clear hX
                      try simp only [Act.put, List.setIfInBounds_toArray, List.set_cons_zero, List.set_cons_succ]
                      generalize hgb : w5.heap.size = gb at *
                      replace D7 := hid (show Dc w0 (w5.alloc (.cells #[.string (strOfNums (cS.rd (l, false)).1)] 9)) B p q bx u1 u2 u3 u4 u5 u (.slice none 0 0) (x1, x2, x3, x4, x5, xs, []) (cS.rd (l, false)).2 from D7.out)
                      replace C7 := hid (show ∀ j v, (fS (cS.rd (l, false)).1)[j]? = some v → (w5.alloc (.cells #[.string (strOfNums (cS.rd (l, false)).1)] 9)).cell? ⟨gb, j, none⟩ = some v from C7.out)
                      clear hgb
                      generalize World.alloc w5 _ = w7 at *
                      refine wpAnyH_ready (rs := [1]) (by kernel_rfl) (by simp) ?_
                      refine cons2 rfl rfl (fun K9 hK => ?_)
                      have e0 := D7.out.box.cell 5 _ rfl
                      go_simp
                      refine hK.out _ _ trivial (fun hX => ?_)
                      clear hK K9 hHeld
                      have hHeld := hX
                      clear hX
                      try simp only [Act.put, List.setIfInBounds_toArray, List.set_cons_zero, List.set_cons_succ]
                      have OB := hid (fun k e => (D7.out.fd.r5.ty k e).1)
                      refine wpAnyH_ready (rs := [7]) (by kernel_rfl) (by simp) ?_
                      refine cons2 rfl rfl (fun K9 hK => ?_)
                      refine step_addQ 9 26 1 16 (.string ⟨#[]⟩) fS rfl (.tmp 130) (.tmp 135) rfl Tryd.underlying26 info_Str rfl (by decide) (by decide) (fun _ => rfl) B _ xs (cS.rd (l, false)).1 rfl D7.out.fd.r5 (fun u hu => by simp [fS] at hu; subst hu; rfl) gb rfl C7.out (by have := LX.out; omega) D7.out.sz (fun v8 w8 o8 g8 => ?_)
                      obtain ⟨a8, m8, c8, rfl⟩ := o8.slice3
                      have X8 := hid (D7.out.boxAt PL.out g8 OB.out)
                      have y0 := X8.out.cell 5 _ rfl
                      have fz := X8.out.fz
                      have DZ := hid (Dc.add (i := 5) (v := .slice a8 m8 c8) D7.out PL.out g8 OB.out rfl (Fd.add5 D7.out.fd o8 g8))
                      clear o8 g8
                      refine hK.out _ _ trivial (fun hX => ?_)
                      clear hK K9 hHeld
                      have hHeld := hX
                      clear hX
                      try simp only [Act.put, List.setIfInBounds_toArray, List.set_cons_zero, List.set_cons_succ]
                      refine wpAnyH_ready (rs := [8]) (by kernel_rfl) (by simp) ?_
                      refine cons2 rfl rfl (fun K9 hK => ?_)
                      go_simp
                      refine hK.out _ _ trivial (fun hX => ?_)
                      clear hK K9 hHeld
                      have hHeld := hX
                      clear hX
                      try simp only [Act.put, List.setIfInBounds_toArray, List.set_cons_zero, List.set_cons_succ]
                      refine wpAnyH_ready (rs := [9]) (by kernel_rfl) (by simp) ?_
                      refine cons2 rfl rfl (fun K9 hK => ?_)
                      go_simp
                      refine hK.out _ _ trivial (fun hX => ?_)
                      clear hK K9 hHeld
                      have hHeld := hX
                      clear hX
                      try simp only [Act.put, List.setIfInBounds_toArray, List.set_cons_zero, List.set_cons_succ]
                      refine wpAnyH_done (by kernel_rfl) ?_ _
                      generalize World.setCell w8 _ _ = w9 at *
                      clear fz y0 X8
                      go_wp2_with fail
                      go_roundg (N3 - (i + 1))
                      case measure => omega
                      case rel => exact ⟨i + 1, _, _, _, by rw [Int.natCast_add]; rfl, by omega, rfl, DZ, E1, L1⟩
                · go_upto_region 27 with fail
                  go_cut [126] from 116 to 126 (fun s wx => s = .bool false ∧ wx = wr)
                  case first =>
                    have cb := hD.out.rd.bad
                    by_cases c : i < N3
                    · have c' : (i : Int) < (N3 : Int) := by omega
                      obtain ⟨l, b⟩ := t
                      obtain rfl : b = true := by cases b with | true => rfl | false => exact absurd ⟨c, rfl⟩ st
                      go_wp2_with fail
                      go_meet
                      exact ⟨rfl, rfl⟩
                    · have c' : ¬ (i : Int) < (N3 : Int) := by omega
                      go_wp2_with fail
                      go_meet
                      exact ⟨rfl, rfl⟩
                  case rest =>
                    obtain ⟨rfl, hwr⟩ := hcut
                    obtain rfl : wr = wc := hwr.symm
                    have FE := hid (show rdN cS N3 t3 = (xs, t) from by
                      rw [hE.out]
                      by_cases c : i < N3
                      · have hb : t.2 = true := by cases hb : t.2 with | true => rfl | false => exact absurd ⟨c, hb⟩ st
                        rw [rdN_bad _ _ _ hb]; simp
                      · rw [show N3 - i = 0 by omega]; simp [rdN])
                    have TL := hid (show t.1.length ≤ 3000 from by
                      have h1 := rdN_down cS_good N3 t3
                      rw [FE.out] at h1
                      exact Nat.le_trans h1 TL3.out)
                    clear hE hL st hi
                    obtain ⟨we3, e⟩ : ∃ x, x = wr := ⟨_, rfl⟩
                    subst e
                    obtain ⟨u6, e⟩ : ∃ x, x = u := ⟨_, rfl⟩
                    subst e
                    obtain ⟨x6, e⟩ : ∃ x, x = xs := ⟨_, rfl⟩
                    subst e
                    obtain ⟨t3e, e⟩ : ∃ x, x = t := ⟨_, rfl⟩
                    subst e
                    have FE3 := FE
                    clear FE
                    have KN := hid (ref14_n_any hD.out.rd (show t3e.1.length ≤ 15000000 from by have := TL.out; omega))
                    have NB4 : (cnt true t3e).1 ≤ 3000 := Nat.le_trans (cnt_le t3e) TL.out
                    have TL4 := hid (show (cnt true t3e).2.1.length ≤ 3000 from Nat.le_trans (cnt_down _ _) TL.out)
                    obtain ⟨N4, hN⟩ : ∃ N, N = (cnt true t3e).1 := ⟨_, rfl⟩
                    obtain ⟨t4, ht⟩ : ∃ t, t = (cnt true t3e).2 := ⟨_, rfl⟩
                    rw [← hN, ← ht] at KN
                    rw [← hN] at NB4
                    rw [← ht] at TL4
                    have EQ4 := hid (And.intro hN ht)
                    clear hN ht TL
                    go_upto_region 31 with (go_at_call 43; (with_reducible refine Calls.mono KN.out ?_); rintro e w4 ⟨rfl, r4⟩; have DN4 := hid (hD.out.read PL.out r4); clear r4 KN)
                    clear hD
                    go_wp2_with fail
                    go_loopg [13, 14] N4 (fun g iv s14 wr => ∃ (i : Nat) (xs : List (Int × Int × Int × Int)) (t : Sr) (u : Value), iv = .int .i64 (i : Nat) ∧ i ≤ N4 ∧ g = N4 - i ∧ Hid (Dc w0 wr B p q bx u1 u2 u3 u4 u5 u6 u (x1, x2, x3, x4, x5, x6, xs) t) ∧ Hid (rdN cN N4 t4 = (xs ++ (rdN cN (N4 - i) t).1, (rdN cN (N4 - i) t).2)) ∧ Hid (xs.length + t.1.length ≤ 3000 + (if t.2 = true then 1 else 0)))
                    case atStart => exact ⟨0, [], t4, _, rfl, Nat.zero_le _, rfl, DN4, hid (by simp), hid (by have := TL4.out; simp; omega)⟩
                    case round =>
                      obtain ⟨i, xs, t, u, rfl, hi, rfl, hD, hE, hL⟩ := hrel
                      clear DN4
                      by_cases st : i < N4 ∧ t.2 = false
                      · obtain ⟨l, b⟩ := t
                        obtain rfl : b = false := st.2
                        have c' : (i : Int) < (N4 : Int) := by omega
                        have cb := hD.out.rd.bad
                        have LL := hid (show l.length ≤ 3001 from by have h1 := hL.out; simp at h1; omega)
                        have LX := hid (show xs.length ≤ 3001 from by have h1 := hL.out; simp at h1; omega)
                        have E1 := hid (rl_eq (k := N4 - (i + 1)) (xs := xs) (l := l) (r := rdN cN N4 t4) (c := cN) (by rw [hE.out, show N4 - (i + 1) + 1 = N4 - i by omega]))
                        have L1 := hid (rl_len cN_good hL.out)
                        clear hE hL st
                        have LB0 := hid (show (l, false).1.length ≤ 3001 from LL.out)
                        have I0 := hid (show It wr (wr.alloc (.cells #[.int .i64 0, .int .i64 0, .int .i64 0, .int .i64 0] 36)) p q wr.heap.size 36 #[.int .i64 0, .int .i64 0, .int .i64 0, .int .i64 0] (l, false) from ⟨hD.out.rd.below (allocB wr _), fr_below ⟨rfl, rfl, rfl, Nat.le_refl _, fun _ _ _ => rfl⟩ (allocB wr _), Bx.new wr _ _ (by decide)⟩)
                        obtain ⟨y, hy⟩ : ∃ y, y = wr.heap.size := ⟨_, rfl⟩
                        have YP := hid (show y ≠ p ∧ y ≠ q ∧ wr.heap.size ≤ y from by
                          have h1 := PL.out.p1; have h2 := PL.out.q1; have h3 := hD.out.sz
                          exact ⟨by omega, by omega, by omega⟩)
                        rw [← hy] at I0
                        go_upto_region 35 with fail
                        rw [← hy]
                        clear cb hy
                        generalize World.alloc wr _ = w0i at *
                        have KI := hid (show Calls Tryd.prog 44 _ w0i (fun e w' => e = .returned (.int .i64 (cI.rd (l, false)).1) ∧ Rd w' p q (cI.rd (l, false)).2.2 (cI.rd (l, false)).2.1 ∧ World.grownBy w0i w' (some p)) from wI_any p q _ _ w0i I0.out.rd (by have := LB0.out; omega))
                        have LB1 := hid (show (cI.rd (l, false)).2.1.length ≤ 3001 from Nat.le_trans (cI_good.down (l, false)) LB0.out)
                        go_upto_region 36 with (go_at_call 44; (with_reducible refine Calls.mono KI.out ?_); rintro e w0z ⟨rfl, r5, g5⟩; have J0 := hid (I0.out.read (t' := (cI.rd (l, false)).2) YP.out.1.symm ⟨r5, g5⟩); have z0 := J0.out.box.cell 0 _ rfl; have fz := J0.out.box.fz; have I1 := hid (J0.out.set (i := 0) (cs' := #[(.int .i64 (cI.rd (l, false)).1), .int .i64 0, .int .i64 0, .int .i64 0]) (.int .i64 (cI.rd (l, false)).1) YP.out.1 YP.out.2.1 YP.out.2.2 rfl); clear r5 g5 KI)
                        clear J0 z0 fz I0
                        generalize World.setCell w0z _ _ = w1i at *
                        have KI := hid (show Calls Tryd.prog 44 _ w1i (fun e w' => e = .returned (.int .i64 (cI.rd (cI.rd (l, false)).2).1) ∧ Rd w' p q (cI.rd (cI.rd (l, false)).2).2.2 (cI.rd (cI.rd (l, false)).2).2.1 ∧ World.grownBy w1i w' (some p)) from wI_any p q _ _ w1i I1.out.rd (by have := LB1.out; omega))
                        have LB2 := hid (show (cI.rd (cI.rd (l, false)).2).2.1.length ≤ 3001 from Nat.le_trans (cI_good.down (cI.rd (l, false)).2) LB1.out)
                        go_upto_region 37 with (go_at_call 44; (with_reducible refine Calls.mono KI.out ?_); rintro e w1z ⟨rfl, r5, g5⟩; have J1 := hid (I1.out.read (t' := (cI.rd (cI.rd (l, false)).2).2) YP.out.1.symm ⟨r5, g5⟩); have z0 := J1.out.box.cell 1 _ rfl; have fz := J1.out.box.fz; have I2 := hid (J1.out.set (i := 1) (cs' := #[(.int .i64 (cI.rd (l, false)).1), (.int .i64 (cI.rd (cI.rd (l, false)).2).1), .int .i64 0, .int .i64 0]) (.int .i64 (cI.rd (cI.rd (l, false)).2).1) YP.out.1 YP.out.2.1 YP.out.2.2 rfl); clear r5 g5 KI)
                        clear J1 z0 fz I1
                        generalize World.setCell w1z _ _ = w2i at *
                        have KI := hid (show Calls Tryd.prog 44 _ w2i (fun e w' => e = .returned (.int .i64 (cI.rd (cI.rd (cI.rd (l, false)).2).2).1) ∧ Rd w' p q (cI.rd (cI.rd (cI.rd (l, false)).2).2).2.2 (cI.rd (cI.rd (cI.rd (l, false)).2).2).2.1 ∧ World.grownBy w2i w' (some p)) from wI_any p q _ _ w2i I2.out.rd (by have := LB2.out; omega))
                        have LB3 := hid (show (cI.rd (cI.rd (cI.rd (l, false)).2).2).2.1.length ≤ 3001 from Nat.le_trans (cI_good.down (cI.rd (cI.rd (l, false)).2).2) LB2.out)
                        go_upto_region 38 with (go_at_call 44; (with_reducible refine Calls.mono KI.out ?_); rintro e w2z ⟨rfl, r5, g5⟩; have J2 := hid (I2.out.read (t' := (cI.rd (cI.rd (cI.rd (l, false)).2).2).2) YP.out.1.symm ⟨r5, g5⟩); have z0 := J2.out.box.cell 2 _ rfl; have fz := J2.out.box.fz; have I3 := hid (J2.out.set (i := 2) (cs' := #[(.int .i64 (cI.rd (l, false)).1), (.int .i64 (cI.rd (cI.rd (l, false)).2).1), (.int .i64 (cI.rd (cI.rd (cI.rd (l, false)).2).2).1), .int .i64 0]) (.int .i64 (cI.rd (cI.rd (cI.rd (l, false)).2).2).1) YP.out.1 YP.out.2.1 YP.out.2.2 rfl); clear r5 g5 KI)
                        clear J2 z0 fz I2
                        generalize World.setCell w2z _ _ = w3i at *
                        have KI := hid (show Calls Tryd.prog 44 _ w3i (fun e w' => e = .returned (.int .i64 (cI.rd (cI.rd (cI.rd (cI.rd (l, false)).2).2).2).1) ∧ Rd w' p q (cI.rd (cI.rd (cI.rd (cI.rd (l, false)).2).2).2).2.2 (cI.rd (cI.rd (cI.rd (cI.rd (l, false)).2).2).2).2.1 ∧ World.grownBy w3i w' (some p)) from wI_any p q _ _ w3i I3.out.rd (by have := LB3.out; omega))
                        have LB4 := hid (show (cI.rd (cI.rd (cI.rd (cI.rd (l, false)).2).2).2).2.1.length ≤ 3001 from Nat.le_trans (cI_good.down (cI.rd (cI.rd (cI.rd (l, false)).2).2).2) LB3.out)
                        go_upto_region 39 with (go_at_call 44; (with_reducible refine Calls.mono KI.out ?_); rintro e w3z ⟨rfl, r5, g5⟩; have J3 := hid (I3.out.read (t' := (cI.rd (cI.rd (cI.rd (cI.rd (l, false)).2).2).2).2) YP.out.1.symm ⟨r5, g5⟩); have z0 := J3.out.box.cell 3 _ rfl; have fz := J3.out.box.fz; have I4 := hid (J3.out.set (i := 3) (cs' := #[(.int .i64 (cI.rd (l, false)).1), (.int .i64 (cI.rd (cI.rd (l, false)).2).1), (.int .i64 (cI.rd (cI.rd (cI.rd (l, false)).2).2).1), (.int .i64 (cI.rd (cI.rd (cI.rd (cI.rd (l, false)).2).2).2).1)]) (.int .i64 (cI.rd (cI.rd (cI.rd (cI.rd (l, false)).2).2).2).1) YP.out.1 YP.out.2.1 YP.out.2.2 rfl); clear r5 g5 KI)
                        clear J3 z0 fz I3
                        generalize World.setCell w3z _ _ = w4i at *
                        have D6 := hid (hD.out.read (t' := (cN.rd (l, false)).2) PL.out ⟨I4.out.rd, I4.out.fr⟩)
                        have e0 := D6.out.box.cell 6 _ rfl
                        have z0 := I4.out.box.cell 0 _ rfl
                        have z1 := I4.out.box.cell 1 _ rfl
                        have z2 := I4.out.box.cell 2 _ rfl
                        have z3 := I4.out.box.cell 3 _ rfl
                        have D7 := hid (D6.out.next (allocB w4i (.cells (fN (cN.rd (l, false)).1).toArray 36)))
                        have C7 := hid (cells_new w4i (fN (cN.rd (l, false)).1) 36)
                        have OB := hid (fun k e => (D7.out.fd.r6.ty k e).1)
                        clear hD
                        go_upto_region 33 with (at_builtin; refine wpList_addQ 36 27 4 32 (.agg #[.int .i64 0, .int .i64 0, .int .i64 0, .int .i64 0]) fN rfl (.tmp 175) (.tmp 177) rfl Tryd.underlying27 info_Ins rfl (by decide) (by decide) (fun _ => rfl) B _ xs (cN.rd (l, false)).1 rfl D7.out.fd.r6 (fun u hu => by simp [fN] at hu; rcases hu with rfl | rfl | rfl | rfl <;> rfl) w4i.heap.size rfl C7.out (by have := LX.out; omega) D7.out.sz ?_; intro v8 w8 o8 g8; obtain ⟨a8, m8, c8, rfl⟩ := o8.slice3; have X8 := hid (D7.out.boxAt PL.out g8 OB.out); have y0 := X8.out.cell 6 _ rfl; have fz := X8.out.fz; have DZ := hid (Dc.add (i := 6) (v := .slice a8 m8 c8) D7.out PL.out g8 OB.out rfl (Fd.add6 D7.out.fd o8 g8)); clear o8 g8)
                        clear e0 D6 D7 C7 z0 z1 z2 z3 I4
                        generalize World.setCell w8 _ _ = w9 at *
                        go_wp2_with fail
                        go_roundg (N4 - (i + 1))
                        case measure => omega
                        case rel => exact ⟨i + 1, _, _, _, by rw [Int.natCast_add]; rfl, by omega, rfl, DZ, E1, L1⟩
                      · go_upto_region 32 with fail
                        go_cut [150] from 140 to 150 (fun s wx => s = .bool false ∧ wx = wr)
                        case first =>
                          have cb := hD.out.rd.bad
                          by_cases c : i < N4
                          · have c' : (i : Int) < (N4 : Int) := by omega
                            obtain ⟨l, b⟩ := t
                            obtain rfl : b = true := by cases b with | true => rfl | false => exact absurd ⟨c, rfl⟩ st
                            go_wp2_with fail
                            go_meet
                            exact ⟨rfl, rfl⟩
                          · have c' : ¬ (i : Int) < (N4 : Int) := by omega
                            go_wp2_with fail
                            go_meet
                            exact ⟨rfl, rfl⟩
                        case rest =>
                          obtain ⟨rfl, hwr⟩ := hcut
                          obtain rfl : wr = wc := hwr.symm
                          have FE := hid (show rdN cN N4 t4 = (xs, t) from by
                            rw [hE.out]
                            by_cases c : i < N4
                            · have hb : t.2 = true := by cases hb : t.2 with | true => rfl | false => exact absurd ⟨c, hb⟩ st
                              rw [rdN_bad _ _ _ hb]; simp
                            · rw [show N4 - i = 0 by omega]; simp [rdN])
                          have TL := hid (show t.1.length ≤ 3000 from by
                            have h1 := rdN_down cN_good N4 t4
                            rw [FE.out] at h1
                            exact Nat.le_trans h1 TL4.out)
                          clear hE hL st hi
                          obtain ⟨we4, e⟩ : ∃ x, x = wr := ⟨_, rfl⟩
                          subst e
                          rename_i r0 r1 r2 r3 r4 r5 r6 r7 r8 r9 r10 r11 r12 r13 r14 r15 r16 r17 r18 r19 r20 r21 r22 r23 r24 r25 r26 r27 r28 r29 r30 r31 r32 r33 r34 r35 r36 r37 r38 r39 r40 r41 r42 r43 r44 r45 r46 r47 r48 r49 r50 r51 r52 r53 r54 r55 r56 r57 r58 r59 r60 r61 r62 r63 r64 r65 r66 r67 r68 r69 r70 r71 r72 r73 r74 r75 r76 r77 r78 r79 r80 r81
                          go_upto_region 40 with fail
                          try clear r81
                          try clear r80
                          try clear r79
                          try clear r78
                          try clear r77
                          try clear r76
                          try clear r75
                          try clear r74
                          try clear r63
                          try clear r62
                          try clear r60
                          try clear r59
                          try clear r58
                          try clear r56
                          try clear r55
                          try clear r54
                          try clear r43
                          try clear r40
                          try clear r39
                          try clear r38
                          try clear r36
                          try clear r35
                          try clear r34
                          try clear r23
                          try clear r20
                          try clear r19
                          try clear r18
                          try clear r16
                          try clear r15
                          try clear r14
                          try clear r3
                          try clear hwr
                          obtain ⟨za0, zm0, zc0, hz⟩ := hD.out.fd.r0.slice3
                          subst hz
                          obtain ⟨RT, -, hR2, -⟩ := hD.out.fd.r1.ex
                          obtain ⟨za1, zm1, zc1, hz⟩ := hR2.slice3
                          clear hR2 RT
                          subst hz
                          obtain ⟨za2, zm2, zc2, hz⟩ := hD.out.fd.r2.slice3
                          subst hz
                          obtain ⟨za3, zm3, zc3, hz⟩ := hD.out.fd.r3.slice3
                          subst hz
                          obtain ⟨za4, zm4, zc4, hz⟩ := hD.out.fd.r4.slice3
                          subst hz
                          obtain ⟨za5, zm5, zc5, hz⟩ := hD.out.fd.r5.slice3
                          subst hz
                          obtain ⟨za6, zm6, zc6, hz⟩ := hD.out.fd.r6.slice3
                          subst hz
                          have HQ := hid (rdQ_eq EQ1.out FE1.out EQ2.out FE2.out HX3.out HX4.out HX5.out HTK.out EQ3.out FE3.out EQ4.out FE.out)
                          clear EQ1 FE1 EQ2 FE2 HX3 HX4 HX5 HTK EQ3 FE3 EQ4 FE TL TL1 TL2 TL3 TL4
                          have OKP := rdQ_ok hok.out
                          have LNP := rdQ_len hok.out (by rw [HL.out]; omega)
                          rw [HQ.out] at OKP LNP
                          obtain ⟨pp, hpp⟩ : ∃ p, p = (x1, x2, x3, x4, x5, x6, xs) := ⟨_, rfl⟩
                          rw [← hpp] at hD HQ OKP LNP
                          clear hpp
                          have OKH := hid OKP
                          have LB := hid (show (bodyOf pp).length ≤ 8000000 from LNP)
                          have PW := hid (ok7 (bs := bs) (x := pp) OKP (fun s hs => Nat.le_trans (txt_body s hs) (by have := LB.out; unfold maxLen; omega)) hD.out.fd)
                          clear OKP LNP
                          have X4 := hid (X0.out.next hD.out.bl)
                          have Y4 := hid (Y0.out.below hD.out.bl)
                          have B4 := hid (nextB B0.out hD.out.bl)
                          have Z4 := hid hD.out.box
                          have RD := hid hD.out.rd
                          clear hD X0 Y0 B0
                          obtain ⟨ra, rn, rc, rv, ry, -⟩ := RD.out.ex
                          have RN := hid ry.len
                          have RV := hid (show ∀ W, Below we4.heap.size we4 W → W.cell? ⟨p, 0, none⟩ = some (.slice ra rn rc) from fun W hW => by rw [World.cell?_of_block (w := we4) (a := ⟨p, 0, none⟩) (hW.block p RD.out.lt)]; exact rv)
                          clear rv ry
                          obtain ⟨SA, hSA'⟩ : ∃ s, s = strOfNums (bytesOf pp) := ⟨_, rfl⟩
                          have hSA := hid hSA'
                          obtain ⟨SB, hSB'⟩ : ∃ s, s = strOfNums bs := ⟨_, rfl⟩
                          have CS := hid (show ∀ W, Below we4.heap.size we4 W → (convert 38 9 (.slice (some ⟨g, o, none⟩) (k + 8) c)).run Tryd.prog W = .ok (.string SB) W from fun W hW => by rw [hSB']; exact (Y4.out.below hW).str)
                          have SQ := hid (str_eq (bytes_bys OKH.out) hok.out)
                          rw [← hSA', ← hSB'] at SQ
                          clear hSA' hSB' Y4
                          obtain ⟨tl, tb⟩ := t
                          cases tb with
                          | true =>
                            have E := hid (refP_no (bs := bs) (fun h => by have h3 := h.2.2.1; rw [HQ.out] at h3; cases h3))
                            refine wp_region_held_drew (S := fun W => Below we4.heap.size we4 W) (by kernel_rfl) (Below.refl _ _).drew (fun hHeld => ?_)
                            have DD := hid (show Below we4.heap.size we4 we4.drew from (Below.refl _ _).drew)
                            generalize we4.drew = wz at *
                            refine wpAnyH_strong (S' := fun W => Below wz.heap.size wz W) (fun W hW => nextB hHeld hW) _ _ _ _ ?_
                            clear hHeld
                            have hHeld := Below.refl wz.heap.size wz
                            refine tk 0 (.pointer (some ⟨p, 0, none⟩)) 180 rfl rfl rfl (by kernel_rfl) (fun _ _ _ h => h) (by rfl) hHeld ?_ ?_
                            · (intro W hW; (try dsimp only at hW); go_simp)
                            try simp only [Act.put, List.setIfInBounds_toArray, List.set_cons_zero, List.set_cons_succ]
                            refine tk 1 (.pointer (some ⟨p, 0, none⟩)) 181 rfl rfl rfl (by kernel_rfl) (fun _ _ _ h => h) (by rfl) hHeld ?_ ?_
                            · (intro W hW; (try dsimp only at hW); go_simp)
                            try simp only [Act.put, List.setIfInBounds_toArray, List.set_cons_zero, List.set_cons_succ]
                            refine tk 2 (.pointer (some ⟨p, 0, none⟩)) 182 rfl rfl rfl (by kernel_rfl) (fun _ _ _ h => h) (by rfl) hHeld ?_ ?_
                            · (intro W hW; (try dsimp only at hW); go_simp)
                            try simp only [Act.put, List.setIfInBounds_toArray, List.set_cons_zero, List.set_cons_succ]
                            refine tk 3 (.pointer (some ⟨p, 1, none⟩)) 183 rfl rfl rfl (by kernel_rfl) (fun _ _ _ h => h) (by rfl) hHeld ?_ ?_
                            · (intro W hW; (try dsimp only at hW); go_simp)
                            try simp only [Act.put, List.setIfInBounds_toArray, List.set_cons_zero, List.set_cons_succ]
                            refine tk 4 (.bool true) 184 rfl rfl rfl (by kernel_rfl) (fun _ _ _ h => h) (by rfl) hHeld ?_ ?_
                            · (intro W hW; (try dsimp only at hW); have q0 := (RD.out.below (nextB DD.out hW)).bad; go_simp)
                            try simp only [Act.put, List.setIfInBounds_toArray, List.set_cons_zero, List.set_cons_succ]
                            refine tk 5 (.bool true) 185 rfl rfl rfl (by kernel_rfl) (fun _ _ _ h => h) (by rfl) hHeld ?_ ?_
                            · (intro W hW; (try dsimp only at hW); go_simp)
                            try simp only [Act.put, List.setIfInBounds_toArray, List.set_cons_zero, List.set_cons_succ]
                            refine sk 6 186 rfl rfl rfl (by kernel_rfl) (fun _ _ _ h => h) (by rfl) hHeld ?_
                            try simp only [Act.put, List.setIfInBounds_toArray, List.set_cons_zero, List.set_cons_succ]
                            refine sk 7 187 rfl rfl rfl (by kernel_rfl) (fun _ _ _ h => h) (by rfl) hHeld ?_
                            try simp only [Act.put, List.setIfInBounds_toArray, List.set_cons_zero, List.set_cons_succ]
                            refine sk 8 188 rfl rfl rfl (by kernel_rfl) (fun _ _ _ h => h) (by rfl) hHeld ?_
                            try simp only [Act.put, List.setIfInBounds_toArray, List.set_cons_zero, List.set_cons_succ]
                            refine sk 9 189 rfl rfl rfl (by kernel_rfl) (fun _ _ _ h => h) (by rfl) hHeld ?_
                            try simp only [Act.put, List.setIfInBounds_toArray, List.set_cons_zero, List.set_cons_succ]
                            refine sk 10 190 rfl rfl rfl (by kernel_rfl) (fun _ _ _ h => h) (by rfl) hHeld ?_
                            try simp only [Act.put, List.setIfInBounds_toArray, List.set_cons_zero, List.set_cons_succ]
                            refine sk 11 191 rfl rfl rfl (by kernel_rfl) (fun _ _ _ h => h) (by rfl) hHeld ?_
                            try simp only [Act.put, List.setIfInBounds_toArray, List.set_cons_zero, List.set_cons_succ]
                            refine sk 12 192 rfl rfl rfl (by kernel_rfl) (fun _ _ _ h => h) (by rfl) hHeld ?_
                            try simp only [Act.put, List.setIfInBounds_toArray, List.set_cons_zero, List.set_cons_succ]
                            refine tk 13 (.bool true) 193 rfl rfl rfl (by kernel_rfl) (fun _ _ _ h => h) (by rfl) hHeld ?_ ?_
                            · (intro W hW; (try dsimp only at hW); go_simp)
                            try simp only [Act.put, List.setIfInBounds_toArray, List.set_cons_zero, List.set_cons_succ]
                            refine tk 14 (.bool true) 194 rfl rfl rfl (by kernel_rfl) (fun _ _ _ h => h) (by rfl) hHeld ?_ ?_
                            · (intro W hW; (try dsimp only at hW); go_simp)
                            try simp only [Act.put, List.setIfInBounds_toArray, List.set_cons_zero, List.set_cons_succ]
                            refine sk 15 195 rfl rfl rfl (by kernel_rfl) (fun _ _ _ h => h) (by rfl) hHeld ?_
                            try simp only [Act.put, List.setIfInBounds_toArray, List.set_cons_zero, List.set_cons_succ]
                            refine sk 16 196 rfl rfl rfl (by kernel_rfl) (fun _ _ _ h => h) (by rfl) hHeld ?_
                            try simp only [Act.put, List.setIfInBounds_toArray, List.set_cons_zero, List.set_cons_succ]
                            refine sk 17 197 rfl rfl rfl (by kernel_rfl) (fun _ _ _ h => h) (by rfl) hHeld ?_
                            try simp only [Act.put, List.setIfInBounds_toArray, List.set_cons_zero, List.set_cons_succ]
                            refine sk 18 198 rfl rfl rfl (by kernel_rfl) (fun _ _ _ h => h) (by rfl) hHeld ?_
                            try simp only [Act.put, List.setIfInBounds_toArray, List.set_cons_zero, List.set_cons_succ]
                            refine sk 19 199 rfl rfl rfl (by kernel_rfl) (fun _ _ _ h => h) (by rfl) hHeld ?_
                            try simp only [Act.put, List.setIfInBounds_toArray, List.set_cons_zero, List.set_cons_succ]
                            refine sk 20 200 rfl rfl rfl (by kernel_rfl) (fun _ _ _ h => h) (by rfl) hHeld ?_
                            try simp only [Act.put, List.setIfInBounds_toArray, List.set_cons_zero, List.set_cons_succ]
                            refine tk 21 (.bool true) 201 rfl rfl rfl (by kernel_rfl) (fun _ _ _ h => h) (by rfl) hHeld ?_ ?_
                            · (intro W hW; (try dsimp only at hW); go_simp)
                            try simp only [Act.put, List.setIfInBounds_toArray, List.set_cons_zero, List.set_cons_succ]
                            refine wpAnyH_done (by kernel_rfl) ?_ _
                            have X5 := hid (X4.out.next DD.out)
                            have B5 := hid (nextB B4.out DD.out)
                            have d0 := X5.out.cell 0 _ rfl
                            have d1 := X5.out.cell 1 _ rfl
                            have d2 := X5.out.cell 2 _ rfl
                            have d3 := X5.out.cell 3 _ rfl
                            have d4 := X5.out.cell 4 _ rfl
                            have d5 := X5.out.cell 5 _ rfl
                            have d6 := X5.out.cell 6 _ rfl
                            have fz := X5.out.fz
                            have S := hid (set7 (.slice none 0 0) (.slice none 0 0) (.slice none 0 0) (.slice none 0 0) (.slice none 0 0) (.slice none 0 0) (.slice none 0 0) d0 d1 d2 d3 d4 d5 d6)
                            have BF := hid (bl_but B5.out (Nat.le_of_eq WR.out.symm) (grown7 wz r (.slice none 0 0) (.slice none 0 0) (.slice none 0 0) (.slice none 0 0) (.slice none 0 0) (.slice none 0 0) (.slice none 0 0)))
                            go_wp2_with fail
                            clear fz d0 d1 d2 d3 d4 d5 d6
                            generalize (((((((wz.setCell ⟨r, 0, none⟩ (.slice none 0 0)).setCell ⟨r, 1, none⟩ (.slice none 0 0)).setCell ⟨r, 2, none⟩ (.slice none 0 0)).setCell ⟨r, 3, none⟩ (.slice none 0 0)).setCell ⟨r, 4, none⟩ (.slice none 0 0)).setCell ⟨r, 5, none⟩ (.slice none 0 0)).setCell ⟨r, 6, none⟩ (.slice none 0 0)) = wf at *
                            obtain ⟨f0, f1, f2, f3, f4, f5, f6⟩ := S.out
                            try simp only [Exit.inBlock, Exit.then]
                            refine bodyPost_ret (by simp [results, Tryd.results17, go_sem, f0, f1, f2, f3, f4, f5, f6]; try rfl) rfl ?_
                            refine ⟨_, by rw [E.out]; rfl, ?_, BF.out⟩
                            rw [E.out]
                            exact Pw.zero _
                          | false =>
                            by_cases te : tl = []
                            · have E0 := hid (show 8 ≤ bs.length from by rw [HL.out]; omega)
                              subst te
                              have RN0 : rn = 0 := by have := RN.out; simpa using this.symm
                              replace RN := hid RN0
                              clear RN0
                              by_cases qe : bytesOf pp = bs
                              · have E := hid (refP_yes E0.out QM.out HQ.out qe)
                                rw [show decide (bytesOf pp = bs) = true by simp [qe]] at SQ
                                clear qe
                                refine wp_region_held_drew (S := fun W => Below we4.heap.size we4 W) (by kernel_rfl) (Below.refl _ _).drew (fun hHeld => ?_)
                                have DD := hid (show Below we4.heap.size we4 we4.drew from (Below.refl _ _).drew)
                                generalize we4.drew = wz at *
                                refine wpAnyH_strong (S' := fun W => Below wz.heap.size wz W) (fun W hW => nextB hHeld hW) _ _ _ _ ?_
                                clear hHeld
                                have hHeld := Below.refl wz.heap.size wz
                                refine tk 0 (.pointer (some ⟨p, 0, none⟩)) 180 rfl rfl rfl (by kernel_rfl) (fun _ _ _ h => h) (by rfl) hHeld ?_ ?_
                                · (intro W hW; (try dsimp only at hW); go_simp)
                                try simp only [Act.put, List.setIfInBounds_toArray, List.set_cons_zero, List.set_cons_succ]
                                refine tk 1 (.pointer (some ⟨p, 0, none⟩)) 181 rfl rfl rfl (by kernel_rfl) (fun _ _ _ h => h) (by rfl) hHeld ?_ ?_
                                · (intro W hW; (try dsimp only at hW); go_simp)
                                try simp only [Act.put, List.setIfInBounds_toArray, List.set_cons_zero, List.set_cons_succ]
                                refine tk 2 (.pointer (some ⟨p, 0, none⟩)) 182 rfl rfl rfl (by kernel_rfl) (fun _ _ _ h => h) (by rfl) hHeld ?_ ?_
                                · (intro W hW; (try dsimp only at hW); go_simp)
                                try simp only [Act.put, List.setIfInBounds_toArray, List.set_cons_zero, List.set_cons_succ]
                                refine tk 3 (.pointer (some ⟨p, 1, none⟩)) 183 rfl rfl rfl (by kernel_rfl) (fun _ _ _ h => h) (by rfl) hHeld ?_ ?_
                                · (intro W hW; (try dsimp only at hW); go_simp)
                                try simp only [Act.put, List.setIfInBounds_toArray, List.set_cons_zero, List.set_cons_succ]
                                refine tk 4 (.bool false) 184 rfl rfl rfl (by kernel_rfl) (fun _ _ _ h => h) (by rfl) hHeld ?_ ?_
                                · (intro W hW; (try dsimp only at hW); have q0 := (RD.out.below (nextB DD.out hW)).bad; go_simp)
                                try simp only [Act.put, List.setIfInBounds_toArray, List.set_cons_zero, List.set_cons_succ]
                                refine tk 5 (.bool false) 185 rfl rfl rfl (by kernel_rfl) (fun _ _ _ h => h) (by rfl) hHeld ?_ ?_
                                · (intro W hW; (try dsimp only at hW); go_simp)
                                try simp only [Act.put, List.setIfInBounds_toArray, List.set_cons_zero, List.set_cons_succ]
                                refine tk 6 (.pointer (some ⟨p, 0, none⟩)) 186 rfl rfl rfl (by kernel_rfl) (fun _ _ _ h => h) (by rfl) hHeld ?_ ?_
                                · (intro W hW; (try dsimp only at hW); go_simp)
                                try simp only [Act.put, List.setIfInBounds_toArray, List.set_cons_zero, List.set_cons_succ]
                                refine tk 7 (.pointer (some ⟨p, 0, none⟩)) 187 rfl rfl rfl (by kernel_rfl) (fun _ _ _ h => h) (by rfl) hHeld ?_ ?_
                                · (intro W hW; (try dsimp only at hW); go_simp)
                                try simp only [Act.put, List.setIfInBounds_toArray, List.set_cons_zero, List.set_cons_succ]
                                refine tk 8 (.pointer (some ⟨p, 0, none⟩)) 188 rfl rfl rfl (by kernel_rfl) (fun _ _ _ h => h) (by rfl) hHeld ?_ ?_
                                · (intro W hW; (try dsimp only at hW); go_simp)
                                try simp only [Act.put, List.setIfInBounds_toArray, List.set_cons_zero, List.set_cons_succ]
                                refine tk 9 (.pointer (some ⟨p, 0, none⟩)) 189 rfl rfl rfl (by kernel_rfl) (fun _ _ _ h => h) (by rfl) hHeld ?_ ?_
                                · (intro W hW; (try dsimp only at hW); go_simp)
                                try simp only [Act.put, List.setIfInBounds_toArray, List.set_cons_zero, List.set_cons_succ]
                                refine tk 10 (.slice ra rn rc) 190 rfl rfl rfl (by kernel_rfl) (fun _ _ _ h => h) (by rfl) hHeld ?_ ?_
                                · (intro W hW; (try dsimp only at hW); have q0 := RV.out W (nextB DD.out hW); go_simp)
                                try simp only [Act.put, List.setIfInBounds_toArray, List.set_cons_zero, List.set_cons_succ]
                                refine tk 11 (.int .i64 (rn : Nat)) 191 rfl rfl rfl (by kernel_rfl) (fun _ _ _ h => h) (by rfl) hHeld ?_ ?_
                                · (intro W hW; (try dsimp only at hW); go_simp)
                                try simp only [Act.put, List.setIfInBounds_toArray, List.set_cons_zero, List.set_cons_succ]
                                refine tk 12 (.bool false) 192 rfl rfl rfl (by kernel_rfl) (fun _ _ _ h => h) (by rfl) hHeld ?_ ?_
                                · (intro W hW; (try dsimp only at hW); have q0 := RN.out; go_simp; (try simp [q0]); (try omega))
                                try simp only [Act.put, List.setIfInBounds_toArray, List.set_cons_zero, List.set_cons_succ]
                                refine tk 13 (.bool false) 193 rfl rfl rfl (by kernel_rfl) (fun _ _ _ h => h) (by rfl) hHeld ?_ ?_
                                · (intro W hW; (try dsimp only at hW); go_simp)
                                try simp only [Act.put, List.setIfInBounds_toArray, List.set_cons_zero, List.set_cons_succ]
                                refine tk 14 (.bool false) 194 rfl rfl rfl (by kernel_rfl) (fun _ _ _ h => h) (by rfl) hHeld ?_ ?_
                                · (intro W hW; (try dsimp only at hW); go_simp)
                                try simp only [Act.put, List.setIfInBounds_toArray, List.set_cons_zero, List.set_cons_succ]
                                refine tk 15 (.agg #[.slice za0 zm0 zc0, .slice za1 zm1 zc1, .slice za2 zm2 zc2, .slice za3 zm3 zc3, .slice za4 zm4 zc4, .slice za5 zm5 zc5, .slice za6 zm6 zc6]) 195 rfl rfl rfl (by kernel_rfl) (fun _ _ _ h => h) (by rfl) hHeld ?_ ?_
                                · (intro W hW; (try dsimp only at hW); have x0 := (Z4.out.next (nextB DD.out hW)).cell 0 _ rfl; have x1 := (Z4.out.next (nextB DD.out hW)).cell 1 _ rfl; have x2 := (Z4.out.next (nextB DD.out hW)).cell 2 _ rfl; have x3 := (Z4.out.next (nextB DD.out hW)).cell 3 _ rfl; have x4 := (Z4.out.next (nextB DD.out hW)).cell 4 _ rfl; have x5 := (Z4.out.next (nextB DD.out hW)).cell 5 _ rfl; have x6 := (Z4.out.next (nextB DD.out hW)).cell 6 _ rfl; go_simp)
                                try simp only [Act.put, List.setIfInBounds_toArray, List.set_cons_zero, List.set_cons_succ]
                                refine tk 18 (.slice (some ⟨g, o, none⟩) (k + 8) c) 198 rfl rfl rfl (by kernel_rfl) (fun _ _ _ h => h) (by rfl) hHeld ?_ ?_
                                · (intro W hW; (try dsimp only at hW); go_simp)
                                try simp only [Act.put, List.setIfInBounds_toArray, List.set_cons_zero, List.set_cons_succ]
                                refine tk 19 (.string SB) 199 rfl rfl rfl (by kernel_rfl) (fun _ _ _ h => h) (by rfl) hHeld ?_ ?_
                                · (intro W hW; (try dsimp only at hW); have q0 := CS.out W (nextB DD.out hW); go_simp)
                                try simp only [Act.put, List.setIfInBounds_toArray, List.set_cons_zero, List.set_cons_succ]
                                refine wpAnyH_ready (rs := [16]) (by kernel_rfl) (by simp) ?_
                                refine cons2 rfl rfl (fun K9 hK => ?_)
                                go_simp
                                refine Calls.mono (ref14_Encode_any wz _ pp (PW.out.next DD.out) (by have := LB.out; omega)) ?_
                                rintro e wy ⟨⟨vy, rfl, oy⟩, b_y⟩
                                obtain ⟨ey, fy, gy, rfl, yy⟩ : ∃ a n c, vy = .slice a n c ∧ By wy a n c (bytesOf pp) := by
                                  obtain ⟨a, c, e, y, -, -⟩ := oy.by
                                  exact ⟨a, _, c, e, y⟩
                                have CY := hid (show ∀ W, Below wy.heap.size wy W → (convert 38 9 (.slice ey fy gy)).run Tryd.prog W = .ok (.string SA) W from fun W hW => by rw [hSA.out]; exact (yy.below hW).str)
                                have BB := hid b_y
                                replace DD := hid (nextB DD.out b_y)
                                clear oy b_y yy
                                go_wp2_with fail
                                refine hK.out _ _ BB.out (fun hX => ?_)
                                clear hK K9 hHeld
                                have hHeld := hX
                                clear hX
                                try simp only [Act.put, List.setIfInBounds_toArray, List.set_cons_zero, List.set_cons_succ]
                                refine wpAnyH_strong (S' := fun W => Below wy.heap.size wy W) (fun W hW => nextB hHeld hW) _ _ _ _ ?_
                                clear hHeld
                                have hHeld := Below.refl wy.heap.size wy
                                clear BB
                                refine tk 17 (.string SA) 197 rfl rfl rfl (by kernel_rfl) (fun _ _ _ h => h) (by rfl) hHeld ?_ ?_
                                · (intro W hW; (try dsimp only at hW); have q0 := CY.out W hW; go_simp)
                                try simp only [Act.put, List.setIfInBounds_toArray, List.set_cons_zero, List.set_cons_succ]
                                refine tk 20 (.bool false) 200 rfl rfl rfl (by kernel_rfl) (fun _ _ _ h => h) (by rfl) hHeld ?_ ?_
                                · (intro W hW; (try dsimp only at hW); have q0 := SQ.out; go_simp; (try simp [q0]))
                                try simp only [Act.put, List.setIfInBounds_toArray, List.set_cons_zero, List.set_cons_succ]
                                refine tk 21 (.bool false) 201 rfl rfl rfl (by kernel_rfl) (fun _ _ _ h => h) (by rfl) hHeld ?_ ?_
                                · (intro W hW; (try dsimp only at hW); go_simp)
                                try simp only [Act.put, List.setIfInBounds_toArray, List.set_cons_zero, List.set_cons_succ]
                                refine wpAnyH_done (by kernel_rfl) ?_ _
                                have X5 := hid (X4.out.next DD.out)
                                have B5 := hid (nextB B4.out DD.out)
                                have r0 := X5.out.cell 0 _ rfl
                                have r1 := X5.out.cell 1 _ rfl
                                have r2 := X5.out.cell 2 _ rfl
                                have r3 := X5.out.cell 3 _ rfl
                                have r4 := X5.out.cell 4 _ rfl
                                have r5 := X5.out.cell 5 _ rfl
                                have r6 := X5.out.cell 6 _ rfl
                                have x0 := (Z4.out.next DD.out).cell 0 _ rfl
                                have x1 := (Z4.out.next DD.out).cell 1 _ rfl
                                have x2 := (Z4.out.next DD.out).cell 2 _ rfl
                                have x3 := (Z4.out.next DD.out).cell 3 _ rfl
                                have x4 := (Z4.out.next DD.out).cell 4 _ rfl
                                have x5 := (Z4.out.next DD.out).cell 5 _ rfl
                                have x6 := (Z4.out.next DD.out).cell 6 _ rfl
                                have fz := X5.out.fz
                                have S := hid (set7 (.slice za0 zm0 zc0) (.slice za1 zm1 zc1) (.slice za2 zm2 zc2) (.slice za3 zm3 zc3) (.slice za4 zm4 zc4) (.slice za5 zm5 zc5) (.slice za6 zm6 zc6) r0 r1 r2 r3 r4 r5 r6)
                                have G7 := hid (grown7 wy r (.slice za0 zm0 zc0) (.slice za1 zm1 zc1) (.slice za2 zm2 zc2) (.slice za3 zm3 zc3) (.slice za4 zm4 zc4) (.slice za5 zm5 zc5) (.slice za6 zm6 zc6))
                                have BF := hid (bl_but B5.out (Nat.le_of_eq WR.out.symm) G7.out)
                                have VF := hid ((PW.out.next DD.out).but G7.out (ns_zero X5.out))
                                go_wp2_with fail
                                clear fz r0 r1 r2 r3 r4 r5 r6 x0 x1 x2 x3 x4 x5 x6
                                generalize (((((((wy.setCell ⟨r, 0, none⟩ (.slice za0 zm0 zc0)).setCell ⟨r, 1, none⟩ (.slice za1 zm1 zc1)).setCell ⟨r, 2, none⟩ (.slice za2 zm2 zc2)).setCell ⟨r, 3, none⟩ (.slice za3 zm3 zc3)).setCell ⟨r, 4, none⟩ (.slice za4 zm4 zc4)).setCell ⟨r, 5, none⟩ (.slice za5 zm5 zc5)).setCell ⟨r, 6, none⟩ (.slice za6 zm6 zc6)) = wf at *
                                obtain ⟨f0, f1, f2, f3, f4, f5, f6⟩ := S.out
                                try simp only [Exit.inBlock, Exit.then]
                                refine bodyPost_ret (by simp [results, Tryd.results17, go_sem, f0, f1, f2, f3, f4, f5, f6]; try rfl) rfl ?_
                                refine ⟨_, by rw [E.out]; rfl, ?_, BF.out⟩
                                rw [E.out]
                                exact VF.out
                              · have E := hid (refP_no (bs := bs) (fun h => by have h4 := h.2.2.2.2; rw [HQ.out] at h4; exact qe h4))
                                rw [show decide (bytesOf pp = bs) = false by simp [qe]] at SQ
                                clear qe
                                refine wp_region_held_drew (S := fun W => Below we4.heap.size we4 W) (by kernel_rfl) (Below.refl _ _).drew (fun hHeld => ?_)
                                have DD := hid (show Below we4.heap.size we4 we4.drew from (Below.refl _ _).drew)
                                generalize we4.drew = wz at *
                                refine wpAnyH_strong (S' := fun W => Below wz.heap.size wz W) (fun W hW => nextB hHeld hW) _ _ _ _ ?_
                                clear hHeld
                                have hHeld := Below.refl wz.heap.size wz
                                refine tk 0 (.pointer (some ⟨p, 0, none⟩)) 180 rfl rfl rfl (by kernel_rfl) (fun _ _ _ h => h) (by rfl) hHeld ?_ ?_
                                · (intro W hW; (try dsimp only at hW); go_simp)
                                try simp only [Act.put, List.setIfInBounds_toArray, List.set_cons_zero, List.set_cons_succ]
                                refine tk 1 (.pointer (some ⟨p, 0, none⟩)) 181 rfl rfl rfl (by kernel_rfl) (fun _ _ _ h => h) (by rfl) hHeld ?_ ?_
                                · (intro W hW; (try dsimp only at hW); go_simp)
                                try simp only [Act.put, List.setIfInBounds_toArray, List.set_cons_zero, List.set_cons_succ]
                                refine tk 2 (.pointer (some ⟨p, 0, none⟩)) 182 rfl rfl rfl (by kernel_rfl) (fun _ _ _ h => h) (by rfl) hHeld ?_ ?_
                                · (intro W hW; (try dsimp only at hW); go_simp)
                                try simp only [Act.put, List.setIfInBounds_toArray, List.set_cons_zero, List.set_cons_succ]
                                refine tk 3 (.pointer (some ⟨p, 1, none⟩)) 183 rfl rfl rfl (by kernel_rfl) (fun _ _ _ h => h) (by rfl) hHeld ?_ ?_
                                · (intro W hW; (try dsimp only at hW); go_simp)
                                try simp only [Act.put, List.setIfInBounds_toArray, List.set_cons_zero, List.set_cons_succ]
                                refine tk 4 (.bool false) 184 rfl rfl rfl (by kernel_rfl) (fun _ _ _ h => h) (by rfl) hHeld ?_ ?_
                                · (intro W hW; (try dsimp only at hW); have q0 := (RD.out.below (nextB DD.out hW)).bad; go_simp)
                                try simp only [Act.put, List.setIfInBounds_toArray, List.set_cons_zero, List.set_cons_succ]
                                refine tk 5 (.bool false) 185 rfl rfl rfl (by kernel_rfl) (fun _ _ _ h => h) (by rfl) hHeld ?_ ?_
                                · (intro W hW; (try dsimp only at hW); go_simp)
                                try simp only [Act.put, List.setIfInBounds_toArray, List.set_cons_zero, List.set_cons_succ]
                                refine tk 6 (.pointer (some ⟨p, 0, none⟩)) 186 rfl rfl rfl (by kernel_rfl) (fun _ _ _ h => h) (by rfl) hHeld ?_ ?_
                                · (intro W hW; (try dsimp only at hW); go_simp)
                                try simp only [Act.put, List.setIfInBounds_toArray, List.set_cons_zero, List.set_cons_succ]
                                refine tk 7 (.pointer (some ⟨p, 0, none⟩)) 187 rfl rfl rfl (by kernel_rfl) (fun _ _ _ h => h) (by rfl) hHeld ?_ ?_
                                · (intro W hW; (try dsimp only at hW); go_simp)
                                try simp only [Act.put, List.setIfInBounds_toArray, List.set_cons_zero, List.set_cons_succ]
                                refine tk 8 (.pointer (some ⟨p, 0, none⟩)) 188 rfl rfl rfl (by kernel_rfl) (fun _ _ _ h => h) (by rfl) hHeld ?_ ?_
                                · (intro W hW; (try dsimp only at hW); go_simp)
                                try simp only [Act.put, List.setIfInBounds_toArray, List.set_cons_zero, List.set_cons_succ]
                                refine tk 9 (.pointer (some ⟨p, 0, none⟩)) 189 rfl rfl rfl (by kernel_rfl) (fun _ _ _ h => h) (by rfl) hHeld ?_ ?_
                                · (intro W hW; (try dsimp only at hW); go_simp)
                                try simp only [Act.put, List.setIfInBounds_toArray, List.set_cons_zero, List.set_cons_succ]
                                refine tk 10 (.slice ra rn rc) 190 rfl rfl rfl (by kernel_rfl) (fun _ _ _ h => h) (by rfl) hHeld ?_ ?_
                                · (intro W hW; (try dsimp only at hW); have q0 := RV.out W (nextB DD.out hW); go_simp)
                                try simp only [Act.put, List.setIfInBounds_toArray, List.set_cons_zero, List.set_cons_succ]
                                refine tk 11 (.int .i64 (rn : Nat)) 191 rfl rfl rfl (by kernel_rfl) (fun _ _ _ h => h) (by rfl) hHeld ?_ ?_
                                · (intro W hW; (try dsimp only at hW); go_simp)
                                try simp only [Act.put, List.setIfInBounds_toArray, List.set_cons_zero, List.set_cons_succ]
                                refine tk 12 (.bool false) 192 rfl rfl rfl (by kernel_rfl) (fun _ _ _ h => h) (by rfl) hHeld ?_ ?_
                                · (intro W hW; (try dsimp only at hW); have q0 := RN.out; go_simp; (try simp [q0]); (try omega))
                                try simp only [Act.put, List.setIfInBounds_toArray, List.set_cons_zero, List.set_cons_succ]
                                refine tk 13 (.bool false) 193 rfl rfl rfl (by kernel_rfl) (fun _ _ _ h => h) (by rfl) hHeld ?_ ?_
                                · (intro W hW; (try dsimp only at hW); go_simp)
                                try simp only [Act.put, List.setIfInBounds_toArray, List.set_cons_zero, List.set_cons_succ]
                                refine tk 14 (.bool false) 194 rfl rfl rfl (by kernel_rfl) (fun _ _ _ h => h) (by rfl) hHeld ?_ ?_
                                · (intro W hW; (try dsimp only at hW); go_simp)
                                try simp only [Act.put, List.setIfInBounds_toArray, List.set_cons_zero, List.set_cons_succ]
                                refine tk 15 (.agg #[.slice za0 zm0 zc0, .slice za1 zm1 zc1, .slice za2 zm2 zc2, .slice za3 zm3 zc3, .slice za4 zm4 zc4, .slice za5 zm5 zc5, .slice za6 zm6 zc6]) 195 rfl rfl rfl (by kernel_rfl) (fun _ _ _ h => h) (by rfl) hHeld ?_ ?_
                                · (intro W hW; (try dsimp only at hW); have x0 := (Z4.out.next (nextB DD.out hW)).cell 0 _ rfl; have x1 := (Z4.out.next (nextB DD.out hW)).cell 1 _ rfl; have x2 := (Z4.out.next (nextB DD.out hW)).cell 2 _ rfl; have x3 := (Z4.out.next (nextB DD.out hW)).cell 3 _ rfl; have x4 := (Z4.out.next (nextB DD.out hW)).cell 4 _ rfl; have x5 := (Z4.out.next (nextB DD.out hW)).cell 5 _ rfl; have x6 := (Z4.out.next (nextB DD.out hW)).cell 6 _ rfl; go_simp)
                                try simp only [Act.put, List.setIfInBounds_toArray, List.set_cons_zero, List.set_cons_succ]
                                refine tk 18 (.slice (some ⟨g, o, none⟩) (k + 8) c) 198 rfl rfl rfl (by kernel_rfl) (fun _ _ _ h => h) (by rfl) hHeld ?_ ?_
                                · (intro W hW; (try dsimp only at hW); go_simp)
                                try simp only [Act.put, List.setIfInBounds_toArray, List.set_cons_zero, List.set_cons_succ]
                                refine tk 19 (.string SB) 199 rfl rfl rfl (by kernel_rfl) (fun _ _ _ h => h) (by rfl) hHeld ?_ ?_
                                · (intro W hW; (try dsimp only at hW); have q0 := CS.out W (nextB DD.out hW); go_simp)
                                try simp only [Act.put, List.setIfInBounds_toArray, List.set_cons_zero, List.set_cons_succ]
                                refine wpAnyH_ready (rs := [16]) (by kernel_rfl) (by simp) ?_
                                refine cons2 rfl rfl (fun K9 hK => ?_)
                                go_simp
                                refine Calls.mono (ref14_Encode_any wz _ pp (PW.out.next DD.out) (by have := LB.out; omega)) ?_
                                rintro e wy ⟨⟨vy, rfl, oy⟩, b_y⟩
                                obtain ⟨ey, fy, gy, rfl, yy⟩ : ∃ a n c, vy = .slice a n c ∧ By wy a n c (bytesOf pp) := by
                                  obtain ⟨a, c, e, y, -, -⟩ := oy.by
                                  exact ⟨a, _, c, e, y⟩
                                have CY := hid (show ∀ W, Below wy.heap.size wy W → (convert 38 9 (.slice ey fy gy)).run Tryd.prog W = .ok (.string SA) W from fun W hW => by rw [hSA.out]; exact (yy.below hW).str)
                                have BB := hid b_y
                                replace DD := hid (nextB DD.out b_y)
                                clear oy b_y yy
                                go_wp2_with fail
                                refine hK.out _ _ BB.out (fun hX => ?_)
                                clear hK K9 hHeld
                                have hHeld := hX
                                clear hX
                                try simp only [Act.put, List.setIfInBounds_toArray, List.set_cons_zero, List.set_cons_succ]
                                refine wpAnyH_strong (S' := fun W => Below wy.heap.size wy W) (fun W hW => nextB hHeld hW) _ _ _ _ ?_
                                clear hHeld
                                have hHeld := Below.refl wy.heap.size wy
                                clear BB
                                refine tk 17 (.string SA) 197 rfl rfl rfl (by kernel_rfl) (fun _ _ _ h => h) (by rfl) hHeld ?_ ?_
                                · (intro W hW; (try dsimp only at hW); have q0 := CY.out W hW; go_simp)
                                try simp only [Act.put, List.setIfInBounds_toArray, List.set_cons_zero, List.set_cons_succ]
                                refine tk 20 (.bool true) 200 rfl rfl rfl (by kernel_rfl) (fun _ _ _ h => h) (by rfl) hHeld ?_ ?_
                                · (intro W hW; (try dsimp only at hW); have q0 := SQ.out; go_simp; (try simp [q0]))
                                try simp only [Act.put, List.setIfInBounds_toArray, List.set_cons_zero, List.set_cons_succ]
                                refine tk 21 (.bool true) 201 rfl rfl rfl (by kernel_rfl) (fun _ _ _ h => h) (by rfl) hHeld ?_ ?_
                                · (intro W hW; (try dsimp only at hW); go_simp)
                                try simp only [Act.put, List.setIfInBounds_toArray, List.set_cons_zero, List.set_cons_succ]
                                refine wpAnyH_done (by kernel_rfl) ?_ _
                                have X5 := hid (X4.out.next DD.out)
                                have B5 := hid (nextB B4.out DD.out)
                                have d0 := X5.out.cell 0 _ rfl
                                have d1 := X5.out.cell 1 _ rfl
                                have d2 := X5.out.cell 2 _ rfl
                                have d3 := X5.out.cell 3 _ rfl
                                have d4 := X5.out.cell 4 _ rfl
                                have d5 := X5.out.cell 5 _ rfl
                                have d6 := X5.out.cell 6 _ rfl
                                have fz := X5.out.fz
                                have S := hid (set7 (.slice none 0 0) (.slice none 0 0) (.slice none 0 0) (.slice none 0 0) (.slice none 0 0) (.slice none 0 0) (.slice none 0 0) d0 d1 d2 d3 d4 d5 d6)
                                have BF := hid (bl_but B5.out (Nat.le_of_eq WR.out.symm) (grown7 wy r (.slice none 0 0) (.slice none 0 0) (.slice none 0 0) (.slice none 0 0) (.slice none 0 0) (.slice none 0 0) (.slice none 0 0)))
                                go_wp2_with fail
                                clear fz d0 d1 d2 d3 d4 d5 d6
                                generalize (((((((wy.setCell ⟨r, 0, none⟩ (.slice none 0 0)).setCell ⟨r, 1, none⟩ (.slice none 0 0)).setCell ⟨r, 2, none⟩ (.slice none 0 0)).setCell ⟨r, 3, none⟩ (.slice none 0 0)).setCell ⟨r, 4, none⟩ (.slice none 0 0)).setCell ⟨r, 5, none⟩ (.slice none 0 0)).setCell ⟨r, 6, none⟩ (.slice none 0 0)) = wf at *
                                obtain ⟨f0, f1, f2, f3, f4, f5, f6⟩ := S.out
                                try simp only [Exit.inBlock, Exit.then]
                                refine bodyPost_ret (by simp [results, Tryd.results17, go_sem, f0, f1, f2, f3, f4, f5, f6]; try rfl) rfl ?_
                                refine ⟨_, by rw [E.out]; rfl, ?_, BF.out⟩
                                rw [E.out]
                                exact Pw.zero _
                            · have E := hid (refP_no (bs := bs) (fun h => by have h3 := h.2.2.2.1; rw [HQ.out] at h3; exact te h3))
                              have RN1 := hid (show 0 < rn from by have h1 : tl.length = rn := RN.out; have h2 := List.length_pos_iff.2 te; omega)
                              replace RN := RN1
                              clear te RN1
                              refine wp_region_held_drew (S := fun W => Below we4.heap.size we4 W) (by kernel_rfl) (Below.refl _ _).drew (fun hHeld => ?_)
                              have DD := hid (show Below we4.heap.size we4 we4.drew from (Below.refl _ _).drew)
                              generalize we4.drew = wz at *
                              refine wpAnyH_strong (S' := fun W => Below wz.heap.size wz W) (fun W hW => nextB hHeld hW) _ _ _ _ ?_
                              clear hHeld
                              have hHeld := Below.refl wz.heap.size wz
                              refine tk 0 (.pointer (some ⟨p, 0, none⟩)) 180 rfl rfl rfl (by kernel_rfl) (fun _ _ _ h => h) (by rfl) hHeld ?_ ?_
                              · (intro W hW; (try dsimp only at hW); go_simp)
                              try simp only [Act.put, List.setIfInBounds_toArray, List.set_cons_zero, List.set_cons_succ]
                              refine tk 1 (.pointer (some ⟨p, 0, none⟩)) 181 rfl rfl rfl (by kernel_rfl) (fun _ _ _ h => h) (by rfl) hHeld ?_ ?_
                              · (intro W hW; (try dsimp only at hW); go_simp)
                              try simp only [Act.put, List.setIfInBounds_toArray, List.set_cons_zero, List.set_cons_succ]
                              refine tk 2 (.pointer (some ⟨p, 0, none⟩)) 182 rfl rfl rfl (by kernel_rfl) (fun _ _ _ h => h) (by rfl) hHeld ?_ ?_
                              · (intro W hW; (try dsimp only at hW); go_simp)
                              try simp only [Act.put, List.setIfInBounds_toArray, List.set_cons_zero, List.set_cons_succ]
                              refine tk 3 (.pointer (some ⟨p, 1, none⟩)) 183 rfl rfl rfl (by kernel_rfl) (fun _ _ _ h => h) (by rfl) hHeld ?_ ?_
                              · (intro W hW; (try dsimp only at hW); go_simp)
                              try simp only [Act.put, List.setIfInBounds_toArray, List.set_cons_zero, List.set_cons_succ]
                              refine tk 4 (.bool false) 184 rfl rfl rfl (by kernel_rfl) (fun _ _ _ h => h) (by rfl) hHeld ?_ ?_
                              · (intro W hW; (try dsimp only at hW); have q0 := (RD.out.below (nextB DD.out hW)).bad; go_simp)
                              try simp only [Act.put, List.setIfInBounds_toArray, List.set_cons_zero, List.set_cons_succ]
                              refine tk 5 (.bool false) 185 rfl rfl rfl (by kernel_rfl) (fun _ _ _ h => h) (by rfl) hHeld ?_ ?_
                              · (intro W hW; (try dsimp only at hW); go_simp)
                              try simp only [Act.put, List.setIfInBounds_toArray, List.set_cons_zero, List.set_cons_succ]
                              refine tk 6 (.pointer (some ⟨p, 0, none⟩)) 186 rfl rfl rfl (by kernel_rfl) (fun _ _ _ h => h) (by rfl) hHeld ?_ ?_
                              · (intro W hW; (try dsimp only at hW); go_simp)
                              try simp only [Act.put, List.setIfInBounds_toArray, List.set_cons_zero, List.set_cons_succ]
                              refine tk 7 (.pointer (some ⟨p, 0, none⟩)) 187 rfl rfl rfl (by kernel_rfl) (fun _ _ _ h => h) (by rfl) hHeld ?_ ?_
                              · (intro W hW; (try dsimp only at hW); go_simp)
                              try simp only [Act.put, List.setIfInBounds_toArray, List.set_cons_zero, List.set_cons_succ]
                              refine tk 8 (.pointer (some ⟨p, 0, none⟩)) 188 rfl rfl rfl (by kernel_rfl) (fun _ _ _ h => h) (by rfl) hHeld ?_ ?_
                              · (intro W hW; (try dsimp only at hW); go_simp)
                              try simp only [Act.put, List.setIfInBounds_toArray, List.set_cons_zero, List.set_cons_succ]
                              refine tk 9 (.pointer (some ⟨p, 0, none⟩)) 189 rfl rfl rfl (by kernel_rfl) (fun _ _ _ h => h) (by rfl) hHeld ?_ ?_
                              · (intro W hW; (try dsimp only at hW); go_simp)
                              try simp only [Act.put, List.setIfInBounds_toArray, List.set_cons_zero, List.set_cons_succ]
                              refine tk 10 (.slice ra rn rc) 190 rfl rfl rfl (by kernel_rfl) (fun _ _ _ h => h) (by rfl) hHeld ?_ ?_
                              · (intro W hW; (try dsimp only at hW); have q0 := RV.out W (nextB DD.out hW); go_simp)
                              try simp only [Act.put, List.setIfInBounds_toArray, List.set_cons_zero, List.set_cons_succ]
                              refine tk 11 (.int .i64 (rn : Nat)) 191 rfl rfl rfl (by kernel_rfl) (fun _ _ _ h => h) (by rfl) hHeld ?_ ?_
                              · (intro W hW; (try dsimp only at hW); go_simp)
                              try simp only [Act.put, List.setIfInBounds_toArray, List.set_cons_zero, List.set_cons_succ]
                              refine tk 12 (.bool true) 192 rfl rfl rfl (by kernel_rfl) (fun _ _ _ h => h) (by rfl) hHeld ?_ ?_
                              · (intro W hW; (try dsimp only at hW); have q0 := RN.out; go_simp; (try simp [q0]); (try omega))
                              try simp only [Act.put, List.setIfInBounds_toArray, List.set_cons_zero, List.set_cons_succ]
                              refine tk 13 (.bool true) 193 rfl rfl rfl (by kernel_rfl) (fun _ _ _ h => h) (by rfl) hHeld ?_ ?_
                              · (intro W hW; (try dsimp only at hW); go_simp)
                              try simp only [Act.put, List.setIfInBounds_toArray, List.set_cons_zero, List.set_cons_succ]
                              refine tk 14 (.bool true) 194 rfl rfl rfl (by kernel_rfl) (fun _ _ _ h => h) (by rfl) hHeld ?_ ?_
                              · (intro W hW; (try dsimp only at hW); go_simp)
                              try simp only [Act.put, List.setIfInBounds_toArray, List.set_cons_zero, List.set_cons_succ]
                              refine sk 15 195 rfl rfl rfl (by kernel_rfl) (fun _ _ _ h => h) (by rfl) hHeld ?_
                              try simp only [Act.put, List.setIfInBounds_toArray, List.set_cons_zero, List.set_cons_succ]
                              refine sk 16 196 rfl rfl rfl (by kernel_rfl) (fun _ _ _ h => h) (by rfl) hHeld ?_
                              try simp only [Act.put, List.setIfInBounds_toArray, List.set_cons_zero, List.set_cons_succ]
                              refine sk 17 197 rfl rfl rfl (by kernel_rfl) (fun _ _ _ h => h) (by rfl) hHeld ?_
                              try simp only [Act.put, List.setIfInBounds_toArray, List.set_cons_zero, List.set_cons_succ]
                              refine sk 18 198 rfl rfl rfl (by kernel_rfl) (fun _ _ _ h => h) (by rfl) hHeld ?_
                              try simp only [Act.put, List.setIfInBounds_toArray, List.set_cons_zero, List.set_cons_succ]
                              refine sk 19 199 rfl rfl rfl (by kernel_rfl) (fun _ _ _ h => h) (by rfl) hHeld ?_
                              try simp only [Act.put, List.setIfInBounds_toArray, List.set_cons_zero, List.set_cons_succ]
                              refine sk 20 200 rfl rfl rfl (by kernel_rfl) (fun _ _ _ h => h) (by rfl) hHeld ?_
                              try simp only [Act.put, List.setIfInBounds_toArray, List.set_cons_zero, List.set_cons_succ]
                              refine tk 21 (.bool true) 201 rfl rfl rfl (by kernel_rfl) (fun _ _ _ h => h) (by rfl) hHeld ?_ ?_
                              · (intro W hW; (try dsimp only at hW); go_simp)
                              try simp only [Act.put, List.setIfInBounds_toArray, List.set_cons_zero, List.set_cons_succ]
                              refine wpAnyH_done (by kernel_rfl) ?_ _
                              have X5 := hid (X4.out.next DD.out)
                              have B5 := hid (nextB B4.out DD.out)
                              have d0 := X5.out.cell 0 _ rfl
                              have d1 := X5.out.cell 1 _ rfl
                              have d2 := X5.out.cell 2 _ rfl
                              have d3 := X5.out.cell 3 _ rfl
                              have d4 := X5.out.cell 4 _ rfl
                              have d5 := X5.out.cell 5 _ rfl
                              have d6 := X5.out.cell 6 _ rfl
                              have fz := X5.out.fz
                              have S := hid (set7 (.slice none 0 0) (.slice none 0 0) (.slice none 0 0) (.slice none 0 0) (.slice none 0 0) (.slice none 0 0) (.slice none 0 0) d0 d1 d2 d3 d4 d5 d6)
                              have BF := hid (bl_but B5.out (Nat.le_of_eq WR.out.symm) (grown7 wz r (.slice none 0 0) (.slice none 0 0) (.slice none 0 0) (.slice none 0 0) (.slice none 0 0) (.slice none 0 0) (.slice none 0 0)))
                              go_wp2_with fail
                              clear fz d0 d1 d2 d3 d4 d5 d6
                              generalize (((((((wz.setCell ⟨r, 0, none⟩ (.slice none 0 0)).setCell ⟨r, 1, none⟩ (.slice none 0 0)).setCell ⟨r, 2, none⟩ (.slice none 0 0)).setCell ⟨r, 3, none⟩ (.slice none 0 0)).setCell ⟨r, 4, none⟩ (.slice none 0 0)).setCell ⟨r, 5, none⟩ (.slice none 0 0)).setCell ⟨r, 6, none⟩ (.slice none 0 0)) = wf at *
                              obtain ⟨f0, f1, f2, f3, f4, f5, f6⟩ := S.out
                              try simp only [Exit.inBlock, Exit.then]
                              refine bodyPost_ret (by simp [results, Tryd.results17, go_sem, f0, f1, f2, f3, f4, f5, f6]; try rfl) rfl ?_
                              refine ⟨_, by rw [E.out]; rfl, ?_, BF.out⟩
                              rw [E.out]
                              exact Pw.zero _

end Go.Proofs.YtcmifdnndckpcaaDoor
