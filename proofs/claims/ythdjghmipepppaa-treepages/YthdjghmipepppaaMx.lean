/- climb: up from a leaf (uleft). -/
import Derived.Test.YthdjghmipepppaaMv
namespace Go.Proofs.Ythdjghmipepppaa
open Go.RowKit Go.Shelf
set_option linter.unusedVariables false
set_option linter.unusedSimpArgs false
attribute [local go_sem] Oper.semAt_some
attribute [local irreducible] Stl

set_option maxRecDepth 100000 in
set_option maxHeartbeats 8000000 in
theorem climb_uleft (P : Nat) (sl : Value) (vs : List V4) (sh : List Pg) (ill n base : Nat) (stv : Value) (sts : List (V4 × Nat)) (pre : List (Pg × Nat)) (lv : Value) (lp : Pg) (w : World) (h : Shf w P sl vs sh ill n) (hn : n ≤ 880000000) (hi : ill ≤ 1000000000) (wl : ill = 0 ∨ n < ill)
    (hst : Stp w base stv sts pre) (hsb : ∀ b, stv.ownBlock = some b → b ≠ P ∧ sl.ownBlock ≠ some b) (hlp : Pv w lv lp) (hA : Stl lp) (hPs : Ps lp.kids) (hl : sh.length ≤ 800000) (hc : ∀ st ∈ pre, goodB st.1 = true ∧ st.1.leaf = false ∧ 1 ≤ st.1.keys.length ∧ st.1.keys.length ≤ 127 ∧ st.2 < st.1.kids.length) (hrn : Rn (leftR sh lp).2 ∧ (leftR sh lp).1.length ≤ sh.length + 2) (hlen : pre.length ≤ 20)
    (hq : (upG leftR pre (leftR sh lp)).2.kids.length ≤ 2 ∧ (upG leftR pre (leftR sh lp)).1.length ≤ 900000 ∧ (1 < (upG leftR pre (leftR sh lp)).2.kids.length → Adm ⟨false, (upG leftR pre (leftR sh lp)).2.keys, [], (upG leftR pre (leftR sh lp)).2.kids⟩ ∧ Ps (upG leftR pre (leftR sh lp)).2.kids)) :
    Calls Try.prog 30 #[ifP P, stv, lv, .func (.func 36) #[] #[]] w fun e w' => ClP w w' P sl sh ill n (rootR (upG leftR pre (leftR sh lp))) e := by
  have KS : Hid (∀ (W : World) (sl' : Value) (vs' : List V4) (sh' : List Pg) (n' : Nat) (v : Value) (p : Pg), Shf W P sl' vs' sh' ill n' → n' ≤ 890000000 → (ill = 0 ∨ n' < ill) → Pv W v p → Stl p → Ps p.kids → sh'.length ≤ 900000 → Calls Try.prog 36 #[ifP P, v] W fun e w' => AdP W w' P sl' sh' ill n' (leftR sh' p) e) := fun W sl' vs' sh' n' v p S a b c d e f => left_any P sl' vs' sh' ill n' v p W S a hi b c d e f
  have KR : Hid (∀ (W : World) (sl' : Value) (vs' : List V4) (sh' : List Pg) (n' : Nat) (v : Value) (p : Pg), Shf W P sl' vs' sh' ill n' → n' ≤ 890000000 → (ill = 0 ∨ n' < ill) → Pv W v p → Adm p → Ps p.kids → sh'.length ≤ 900000 → Calls Try.prog 32 #[ifP P, v] W fun e w' => AdP W w' P sl' sh' ill n' (halvR sh' p) e) := fun W sl' vs' sh' n' v p S a b c d e f => added_any P sl' vs' sh' ill n' v p W S a hi b c d.2 d.1 e f
  unfold ifP at KS KR ⊢
  have HH : Hid _ := h
  have LT : Hid _ := h.lt
  have ST : Hid _ := hst
  have SB : Hid _ := hsb
  have LP : Hid _ := hlp
  have HA : Hid _ := hA
  have HP : Hid _ := hPs
  have HL : Hid _ := hl
  have HC : Hid _ := hc
  have HR : Hid _ := hrn
  have HQ : Hid _ := hq
  have WL : Hid _ := wl
  have sl2 : Hid _ := hst.len
  obtain ⟨ad, cap, b, rfl, had', own', bl', lay'⟩ := hst.lay
  have bl : Hid _ := bl'
  have had : Hid _ := had'
  have own : Hid _ := own'
  have lay : Hid _ := lay'
  obtain ⟨ka, kn, kc, va, vn, vc, ia, im, ic, rfl, _, _, _⟩ := hlp.ex
  generalize hlf : lp.leaf = lf at *
  clear h hst hsb hlp hA hPs hl hc hq wl hrn had' own' lay' bl' hlf
  refine (callsIn_wide (n := 3)).1 ?_
  refine callsIn_of_wp_marks Try.func30 rfl trivial ?_ rfl
  simp only [Try.ntmps30, List.size_toArray, List.length_cons, List.length_nil, Nat.reduceAdd, Nat.reduceSub, Array.replicate_succ, Array.replicate_zero, List.push_toArray, List.append_toArray, List.nil_append, List.cons_append]
  refine wpIn_wide.2 ?_
  go_upto_region 1 with fail
  have F5 : Hid _ := five w (.iface 23 (.pointer (some ⟨P, 0, none⟩))) (.func (.func 36) #[] #[]) (.int .u64 0) (.int .i64 0) (.bool lf) (.slice ka kn kc) (.slice va vn vc) (.slice ia im ic) 79 54 82 27 28
  generalize ((((w.alloc (.cells #[.iface 23 (.pointer (some ⟨P, 0, none⟩))] 79)).alloc (.cells #[.bool lf, .slice ka kn kc, .slice va vn vc, .slice ia im ic] 54)).alloc (.cells #[.func (.func 36) #[] #[]] 82)).alloc (.cells #[.int .u64 0] 27)).alloc (.cells #[.int .i64 0] 28) = w0 at *
  have c4 := F5.out.1.a0
  obtain ⟨y0, y1, y2, y3⟩ := F5.out.2.1.b4
  have c7 := F5.out.2.2.1.a0
  have b0 : Hid _ := F5.out.2.2.2.2.2.1
  have K1 : Hid _ := KS.out w0 sl vs sh n _ lp (HH.out.below b0.out) (by omega) WL.out (LP.out.below b0.out) HA.out HP.out (by have := HL.out; omega)
  go_wp2_with fail
  refine Calls.mono K1.out ?_
  rintro e w2 A2
  obtain ⟨ra, rm, rc, ra', rm', rc', er, rfl, A3'⟩ := A2.form
  have A3 : Hid _ := A3'
  clear A2 A3' K1 c4 c7 y0 y1 y2 y3
  go_upto_region 2 with fail
  have b3 : Hid (Below w2.heap.size w2 ((w2.alloc (.cells #[.slice ra rm rc, .slice ra' rm' rc'] 113)).alloc (.cells #[.int .i64 er] 28))) := nextB (allocB w2 _) (allocB _ _)
  have R3 : Hid _ := (Bd2.new w2 (.slice ra rm rc) (.slice ra' rm' rc') 113).below (allocB _ (.cells #[.int .i64 er] 28))
  have E3 : Hid (Bc ((w2.alloc (.cells #[.slice ra rm rc, .slice ra' rm' rc'] 113)).alloc (.cells #[.int .i64 er] 28)) (w2.heap.size + 1) (.int .i64 er)) := by
    have q := Bc.new (w2.alloc (.cells #[.slice ra rm rc, .slice ra' rm' rc'] 113)) (.int .i64 er) 28
    have e : (w2.alloc (.cells #[.slice ra rm rc, .slice ra' rm' rc'] 113)).heap.size = w2.heap.size + 1 := by simp
    rw [e] at q
    exact q
  have z3 : Hid (((w2.alloc (.cells #[.slice ra rm rc, .slice ra' rm' rc'] 113)).alloc (.cells #[.int .i64 er] 28)).heap.size = w2.heap.size + 2) := (by simp : ((w2.alloc (.cells #[.slice ra rm rc, .slice ra' rm' rc'] 113)).alloc (.cells #[.int .i64 er] 28)).heap.size = w2.heap.size + 2)
  generalize (w2.alloc (.cells #[.slice ra rm rc, .slice ra' rm' rc'] 113)).alloc (.cells #[.int .i64 er] 28) = w3 at *
  go_wp2_with fail
  refine Calls.mono (backT_any _ _ _ _) ?_
  rintro e w5 ⟨rfl, hw5⟩
  have b5 : Hid (Below w3.heap.size w3 w5) := by rw [← hw5]; exact allocB _ _
  have B5 : Hid (Bc w5 (w2.heap.size + 2) (.slice ad sts.length cap)) := by rw [← hw5, ← z3.out]; exact Bc.new _ _ _
  have z5 : Hid (w5.heap.size = w2.heap.size + 3) := by rw [← hw5]; exact (by simp [z3.out] : (w3.alloc (.cells #[.slice ad sts.length cap] 83)).heap.size = w2.heap.size + 3)
  rw [z3.out]
  clear hw5
  have CI : Hid (ClI w w5 P sl sh ill n w.heap.size w2.heap.size 36 (.slice ad sts.length cap) (Qf leftR (fun j => pre.getD j (zeroP, 0)) (leftR sh lp) ([] : List (Ix sts.length))) 0) := by
    have g2 : Gw w0 w2 P sl.ownBlock := by
      rcases A3.out with ⟨_, _, _, ⟨_, _, _, q, _⟩, _⟩ | ⟨_, _, ⟨_, _, _, q, _⟩, _⟩
      · exact q
      · exact q
    have sz0 := F5.out.2.2.2.2.2.2
    have nx : ∀ B, w.heap.size ≤ B → some B ≠ sl.ownBlock := fun B hB e => HH.out.newer B hB e.symm
    have lt := LT.out
    have keep : ∀ B, w.heap.size ≤ B → B < w0.heap.size → w5.heap[B]? = w0.heap[B]? := fun B h1 h2 => by
      have q1 := g2.block B h2 (by omega) (nx B h1)
      have q2 := b3.out.block B (Nat.lt_of_lt_of_le h2 g2.size)
      have q3 := b5.out.block B (Nat.lt_of_lt_of_le (Nat.lt_of_lt_of_le h2 g2.size) b3.out.size)
      exact q3.trans (q2.trans q1)
    have sz2 := g2.size
    have b35 := nextB b3.out b5.out
    have Gf : Gw w w5 P sl.ownBlock := (Gw.ahead b0.out g2).next b35
    show ClI w w5 P sl sh ill n w.heap.size w2.heap.size 36 (.slice ad sts.length cap) (leftR sh lp) 0
    refine ⟨⟨F5.out.1.kept (keep _ (by omega) (by omega)), F5.out.2.2.1.kept (keep _ (by omega) (by omega)), F5.out.2.2.2.1.kept (keep _ (by omega) (by omega)), F5.out.2.2.2.2.1.kept (keep _ (by omega) (by omega)), B5.out⟩, Gf, by have := z5.out; omega, ?_⟩
    have nbx : ∀ sl' : Value, (sl'.ownBlock = sl.ownBlock ∨ ∃ g, sl'.ownBlock = some g ∧ w0.heap.size ≤ g) → (∀ g, sl'.ownBlock = some g → g < w2.heap.size) → Nbx sl' sl w.heap.size w2.heap.size := fun sl' h1 h2 B hB hB2 e => by
      have := h2 B e
      rcases h1 with q | ⟨g, q, hg⟩
      · exact nx B hB (e.symm.trans q)
      · rw [q] at e
        have := Option.some.inj e
        omega
    rcases A3.out with ⟨q0, n', rv, ⟨sl', vs', s1, s2, s3⟩, l1, l2, l3⟩ | ⟨q0, t, ⟨sl', vs', s1, s2, s3⟩, iz⟩
    · rw [q0] at E3
      exact Or.inl ⟨_, _, sl', vs', n', ⟨R3.out.below b5.out, E3.out.below b5.out, rv.below b35, s1.below b35, nbx sl' s3 (fun g hg => (s1.own.lt g hg).2), s3.imp id (fun ⟨g, q, hg⟩ => ⟨g, q, by omega⟩), l1, by omega, l3⟩⟩
    · rw [q0] at E3
      exact Or.inr ⟨_, _, _, _, _, _, sl', vs', t, ⟨R3.out.below b5.out, E3.out.below b5.out, s1.below b35, nbx sl' s3 (fun g hg => (s1.own.lt g hg).2), s3.imp id (fun ⟨g, q, hg⟩ => ⟨g, q, by omega⟩), iz⟩⟩
  have ZE : Hid (w.heap.size + 5 ≤ w2.heap.size) := by
    rcases A3.out with ⟨_, _, _, ⟨_, _, _, q, _⟩, _⟩ | ⟨_, _, ⟨_, _, _, q, _⟩, _⟩
    · have := q.size; have := F5.out.2.2.2.2.2.2; exact (by omega : w.heap.size + 5 ≤ w2.heap.size)
    · have := q.size; have := F5.out.2.2.2.2.2.2; exact (by omega : w.heap.size + 5 ≤ w2.heap.size)
  have SBB : Hid (b < w5.heap.size) := by
    have := CI.out.gw.size
    have := LT.out
    rcases bl.out with q | q
    · exact (by omega : b < w5.heap.size)
    · exact (by omega : b < w5.heap.size)
  have LAY5 : Hid (Lay w5 b sts.length (fun j => sts.getD j (⟨false, none, 0, 0, none, 0, 0, none, 0, 0⟩, 0))) := by
    rcases Nat.eq_zero_or_pos sts.length with q | q
    · exact ⟨fun j hj => by omega, fun j hj => by omega, fun j hj => by omega, fun j hj => by omega, fun j hj => by omega⟩
    · have o := own.out q
      have sb := SB.out b o
      exact lay.out.kept (CI.out.gw.block b (ST.out.own.lt b o).2 sb.1 (fun e => sb.2 e.symm))
  generalize w2.heap.size = E at *
  clear A3 R3 E3 b3 b5 B5 z3
  go_wp2_with fail
  refine (wpIn_wide (n := 3)).1 ?_
  refine wpIn_rangeFunc_ownH rfl (by decide) (gf := 80) (lb := #[.pointer (some ⟨E + 2, 0, none⟩)]) rfl trivial (enters_of Try.func80 (by kernel_rfl) rfl)
    (backT_stops (3 - 1) (by decide) (E + 2) b sts.length cap ad had.out (fun j => sts.getD j (⟨false, none, 0, 0, none, 0, 0, none, 0, 0⟩, 0)) (by have := sl2.out; omega) w5 (by have := z5.out; omega) SBB.out CI.out.cb.bs.a0 LAY5.out) Keep2.trans (Keep2.put (by have := z5.out; omega) SBB.out) (Below.refl _ _) (fun _ => rfl)
    (fun pr W => ClI w W P sl sh ill n w.heap.size E 36 (.slice ad sts.length cap) (Qf leftR (fun j => pre.getD j (zeroP, 0)) (leftR sh lp) pr) pr.length)
    (fun c pr W => ClX w W P sl sh ill w.heap.size E c)
    (ClI.own rfl ZE.out (by have := z5.out; omega))
    (fun c => ClX.own rfl (by have := z5.out; have := ZE.out; omega))
    CI.out
    (fun x a' W => ∃ B, w5.heap.size ≤ B ∧ B5 W B (sts.getD x.1 (⟨false, none, 0, 0, none, 0, 0, none, 0, 0⟩, 0)) ∧ a' = { tmps := #[.iface 23 (.pointer (some ⟨P, 0, none⟩)), .slice ad sts.length cap, .agg #[.bool lf, .slice ka kn kc, .slice va vn vc, .slice ia im ic], .func (.func 36) #[] #[], .pointer (some ⟨w.heap.size, 0, none⟩), undef, .pointer (some ⟨w.heap.size + 1, 0, none⟩), .pointer (some ⟨w.heap.size + 1 + 1, 0, none⟩), .pointer (some ⟨w.heap.size + 1 + 1 + 1, 0, none⟩), .pointer (some ⟨w.heap.size + 1 + 1 + 1 + 1, 0, none⟩), .pointer (some ⟨E, 0, none⟩), .pointer (some ⟨E + 1, 0, none⟩), undef, .pointer (some ⟨B, 0, none⟩), .tuple #[.agg #[.slice ra rm rc, .slice ra' rm' rc'], .int .i64 er], .func (.func 36) #[] #[], .iface 23 (.pointer (some ⟨P, 0, none⟩)), .agg #[.bool lf, .slice ka kn kc, .slice va vn vc, .slice ia im ic], .tuple #[.agg #[.slice ra rm rc, .slice ra' rm' rc'], .int .i64 er], .agg #[.slice ra rm rc, .slice ra' rm' rc'], .int .i64 er, .slice ad sts.length cap, .func (.func 80) #[] #[.pointer (some ⟨E + 2, 0, none⟩)], .int .i64 (x.1 : Nat), stV (sts.getD x.1 (⟨false, none, 0, 0, none, 0, 0, none, 0, 0⟩, 0)), undef, undef, undef, undef, undef, undef, undef, undef, undef, undef, undef, undef, undef, undef, undef, undef, undef, undef, undef, undef, undef, undef, undef, undef, undef, undef, undef, undef, undef, undef, undef, undef, undef, undef, undef, undef, undef, undef, undef, undef, undef, undef, undef], defers := [] })
    (fun x a' => fun u W W' row ⟨B, h1, h2, h3⟩ hg hr => ⟨B, h1, B5.own (B0 := w5.heap.size) B _ u W W' row h2 hg hr, h3⟩) ?assign ?body ?done ?stop
  case assign =>
    intro l pr x W K hI hK
    have II : Hid _ := hI
    have KK : Hid _ := hK
    generalize hx : sts.getD x.1 (⟨false, none, 0, 0, none, 0, 0, none, 0, 0⟩, 0) = X at *
    obtain ⟨⟨lf2, ka2, kn2, kc2, va2, vn2, vc2, ia2, im2, ic2⟩, xi⟩ := X
    dsimp only [encT, stV]
    rw [hx]
    clear hI hK
    gi_wp2
    have sz := II.out.sz
    have gb := World.grownBy_alloc W (.cells #[.bool lf2, .slice ka2 kn2 kc2, .slice va2 vn2 vc2, .slice ia2 im2 ic2, .int .i64 (xi : Nat)] 119) none
    have sw : w5.heap.size ≤ W.heap.size := by have := z5.out; omega
    refine KK.out _ _ (KeepsFrom.of_grownBy gb (fun j e => by cases e)) ⟨gb.block _ (by omega) (by simp), gb.block _ (by have := SBB.out; omega) (by simp)⟩ (OwnFrom.alloc (ClI.own (Q := Qf leftR (fun j => pre.getD j (zeroP, 0)) (leftR sh lp)) (sf := 36) (n := n) (stv := .slice ad sts.length cap) rfl ZE.out (by have := z5.out; omega)) _ II.out) ⟨W.heap.size, sw, ⟨heap_alloc_new W _⟩, rfl⟩
  case body =>
    rintro l pr x a' W hl hlp ⟨hcb, hgw, hsz, hst⟩ ⟨B, hB, hb5, rfl⟩ plt
    have CB : Hid _ := hcb
    have GW : Hid _ := hgw
    have SZ : Hid _ := hsz
    have BB : Hid _ := hb5
    have HB : Hid _ := hB
    have PL : Hid _ := plt
    have XL : Hid _ := x.2
    have sw : Hid (w5.heap.size ≤ W.heap.size) := (by have := z5.out; omega : w5.heap.size ≤ W.heap.size)
    generalize hx : sts.getD x.1 (⟨false, none, 0, 0, none, 0, 0, none, 0, 0⟩, 0) = X at *
    have HX : Hid _ := hx
    obtain ⟨⟨lf2, ka2, kn2, kc2, va2, vn2, vc2, ia2, im2, ic2⟩, xi⟩ := X
    dsimp only [stV]
    clear hcb hgw hsz hb5 hB plt hl hlp hx
    rcases hst with ⟨kk, ii, sl', vs', n', o⟩ | ⟨a, m, c, a', m', c', sl', vs', t, o⟩
    · have OO : Hid _ := o
      have e0 := o.e.a0
      obtain ⟨ri, rc, ei⟩ := o.rv.ni
      obtain ⟨rk, rkc, ek⟩ := o.rv.nk
      subst ei ek
      have XP := ST.out.pv x.1 (⟨lf2, ka2, kn2, kc2, va2, vn2, vc2, ia2, im2, ic2⟩, xi) (pre.getD x.1 (zeroP, 0)) (by rw [← HX.out]; exact getD_some XL.out) (getD_some (by have := sl2.out; have := XL.out; omega))
      have GD := HC.out (pre.getD x.1 (zeroP, 0)) (List.mem_of_getElem? (getD_some (by have := sl2.out; have := XL.out; omega)))
      have XI : Hid _ := XP.2
      have PX : Hid (Pv W (V4.agg ⟨lf2, ka2, kn2, kc2, va2, vn2, vc2, ia2, im2, ic2⟩) (pre.getD x.1 (zeroP, 0)).1) := XP.1.gw (good_ps GD.1) GW.out HH.out.ntP HH.out.nt
      have GG : Hid _ := GD
      have allg : Hid (∀ j, j < sts.length → goodB (pre.getD j (zeroP, 0)).1 = true ∧ (pre.getD j (zeroP, 0)).1.leaf = false ∧ 1 ≤ (pre.getD j (zeroP, 0)).1.keys.length ∧ (pre.getD j (zeroP, 0)).1.keys.length ≤ 127 ∧ (pre.getD j (zeroP, 0)).2 < (pre.getD j (zeroP, 0)).1.kids.length ∧ (∀ k ∈ (pre.getD j (zeroP, 0)).1.kids, k < 18446744073709551616)) := fun j hj => by
        have gm : pre[j]? = some (pre.getD j (zeroP, 0)) := getD_some (by have := sl2.out; omega)
        obtain ⟨q1, q2, q3, q4, q5⟩ := HC.out (pre.getD j (zeroP, 0)) (List.mem_of_getElem? gm)
        exact ⟨q1, q2, q3, q4, q5, (ST.out.pv j _ _ (getD_some (d := (⟨false, none, 0, 0, none, 0, 0, none, 0, 0⟩, 0)) hj) gm).1.kid⟩
      have QO : Hid _ := qf_ok sg_left allg.out pr (leftR sh lp) HR.out.1 (by have := HR.out.2; have := HL.out; have := PL.out; have := sl2.out; omega)
      have QL : Hid ((Qf leftR (fun j => pre.getD j (zeroP, 0)) (leftR sh lp) pr).1.length ≤ 890000) := Nat.le_trans QO.out.2.1 (by have := HR.out.2; have := HL.out; have := PL.out; have := sl2.out; omega)
      have QT : Hid (∃ t0, (Qf leftR (fun j => pre.getD j (zeroP, 0)) (leftR sh lp) pr).1 = sh ++ t0) := by
        obtain ⟨t1, e1⟩ := QO.out.2.2
        obtain ⟨t2, e2⟩ := sg_left.grow sh lp
        exact ⟨t2 ++ t1, by rw [e1, e2, List.append_assoc]⟩
      have WS : Hid _ := with_shp (i := (pre.getD x.1 (zeroP, 0)).2) GD.1 GD.2.1 GD.2.2.1 GD.2.2.2.1 GD.2.2.2.2 XP.1.kid QO.out.1
      have QS : Hid (Qf leftR (fun j => pre.getD j (zeroP, 0)) (leftR sh lp) (pr ++ [x]) = leftR (Qf leftR (fun j => pre.getD j (zeroP, 0)) (leftR sh lp) pr).1 (withR (pre.getD x.1 (zeroP, 0)).1 (pre.getD x.1 (zeroP, 0)).2 (Qf leftR (fun j => pre.getD j (zeroP, 0)) (leftR sh lp) pr).2)) := Qf_snoc leftR (fun j => pre.getD j (zeroP, 0)) (leftR sh lp) pr x
      have WPs : Hid _ := with_ps (i := (pre.getD x.1 (zeroP, 0)).2) (good_ps GD.1) OO.out.rv.ps
      clear o XP GD allg QO
      generalize Qf leftR (fun j => pre.getD j (zeroP, 0)) (leftR sh lp) pr = Q at *
      generalize pre.getD x.1 (zeroP, 0) = st at *
      obtain ⟨pp, pi⟩ := st
      simp only at XI GG WS PX QS WPs
      have XI2 := XI.out
      subst XI2
      clear XI
      gi_wp2
      refine region_round (S := (fun W => W.cell? ⟨w.heap.size + 1 + 1, 0, none⟩ = some (.func (.func 36) #[] #[]) ∧ W.cell? ⟨w.heap.size, 0, none⟩ = some (.iface 23 (.pointer (some ⟨P, 0, none⟩))) ∧ W.cell? ⟨B, 0, none⟩ = some (.bool lf2) ∧ W.cell? ⟨B, 1, none⟩ = some (.slice ka2 kn2 kc2) ∧ W.cell? ⟨B, 2, none⟩ = some (.slice va2 vn2 vc2) ∧ W.cell? ⟨B, 3, none⟩ = some (.slice ia2 im2 ic2) ∧ W.cell? ⟨B, 4, none⟩ = some (.int .i64 (xi : Nat)))) (by kernel_rfl) (fun ⟨_, _, h⟩ => h) (by kernel_rfl) ⟨(CB.out.b7.below (Below.refl W.heap.size W).drew).a0, (CB.out.b4.below (Below.refl W.heap.size W).drew).a0, (B5.kept (W' := W.drew) BB.out rfl).c0, (B5.kept (W' := W.drew) BB.out rfl).c1, (B5.kept (W' := W.drew) BB.out rfl).c2, (B5.kept (W' := W.drew) BB.out rfl).c3, (B5.kept (W' := W.drew) BB.out rfl).c4⟩ (fun hHeld => ?_)
      have dr : Hid (Below W.heap.size W W.drew) := (Below.refl W.heap.size W).drew
      have BV : Hid (B5 W.drew B (⟨lf2, ka2, kn2, kc2, va2, vn2, vc2, ia2, im2, ic2⟩, xi)) := BB.out.kept rfl
      generalize W.drew = V at *
      refine take2 rfl (i := 0) (v := (.func (.func 36) #[] #[])) (d := 29) rfl rfl (by kernel_rfl) (by kernel_rfl) (by kernel_rfl) (fun _ _ _ h => h) (Or.inl ⟨by rfl, ?_⟩) hHeld ?_
      · (intro W hW; (try dsimp only at hW); go_simp)
      try simp only [Act.put, List.setIfInBounds_toArray, List.set_cons_zero, List.set_cons_succ]
      refine take2 rfl (i := 1) (v := (.iface 23 (.pointer (some ⟨P, 0, none⟩)))) (d := 30) rfl rfl (by kernel_rfl) (by kernel_rfl) (by kernel_rfl) (fun _ _ _ h => h) (Or.inl ⟨by rfl, ?_⟩) hHeld ?_
      · (intro W hW; (try dsimp only at hW); go_simp)
      try simp only [Act.put, List.setIfInBounds_toArray, List.set_cons_zero, List.set_cons_succ]
      refine take2 rfl (i := 2) (v := (.agg #[.bool lf2, .slice ka2 kn2 kc2, .slice va2 vn2 vc2, .slice ia2 im2 ic2, .int .i64 (xi : Nat)])) (d := 31) rfl rfl (by kernel_rfl) (by kernel_rfl) (by kernel_rfl) (fun _ _ _ h => h) (Or.inl ⟨by rfl, ?_⟩) hHeld ?_
      · (intro W hW; (try dsimp only at hW); go_simp)
      try simp only [Act.put, List.setIfInBounds_toArray, List.set_cons_zero, List.set_cons_succ]
      have CV : Hid _ := CB.out.kept (fun b hb => dr.out.block b (by have := SZ.out; have := ZE.out; omega))
      have r0 := (OO.out.r.below dr.out).a0
      have r1 := (OO.out.r.below dr.out).a1
      refine wpAnyH_ready (rs := [3]) (by kernel_rfl) (by simp) ?_
      refine cons2 rfl rfl (fun K9 hK => ?_)
      go_simp
      refine hK.out _ _ ⟨CV.out.b7.a0, CV.out.b4.a0, BV.out.c0, BV.out.c1, BV.out.c2, BV.out.c3, BV.out.c4⟩ (fun hX => ?_)
      clear hK K9 hHeld
      have hHeld := hX
      clear hX
      try simp only [Act.put, List.setIfInBounds_toArray, List.set_cons_zero, List.set_cons_succ]
      clear r0 r1
      refine wpAnyH_ready (rs := [4]) (by kernel_rfl) (by simp) ?_
      refine cons2 rfl rfl (fun K9 hK => ?_)
      go_simp
      go_at_call 61
      refine Calls.mono (with_any ⟨lf2, ka2, kn2, kc2, va2, vn2, vc2, ia2, im2, ic2⟩ xi pp _ _ Q.2 V (PX.out.below dr.out) GG.out.2.2.2.2 GG.out.1 GG.out.2.1 GG.out.2.2.1 GG.out.2.2.2.1 (OO.out.rv.below dr.out)) ?_
      rintro e V2 ⟨⟨vw, rfl, pw'⟩, bw'⟩
      have pw : Hid _ := pw'
      have bw : Hid _ := nextB dr.out bw'
      have CV2 : Hid _ := CB.out.kept (fun b hb => bw.out.block b (by have := SZ.out; have := ZE.out; omega))
      have BV2 : Hid _ := BV.out.kept (bw'.block B BV.out.lt)
      clear pw' bw'
      go_wp2_with fail
      refine hK.out _ _ ⟨CV2.out.b7.a0, CV2.out.b4.a0, BV2.out.c0, BV2.out.c1, BV2.out.c2, BV2.out.c3, BV2.out.c4⟩ (fun hX => ?_)
      clear hK K9 hHeld
      have hHeld := hX
      clear hX
      try simp only [Act.put, List.setIfInBounds_toArray, List.set_cons_zero, List.set_cons_succ]
      have K5 : Hid _ := KS.out V2 sl' vs' Q.1 n' vw (withR pp xi Q.2) (OO.out.sh.below bw.out) (by have := OO.out.n2; have := PL.out; have := sl2.out; omega) OO.out.wl pw.out (shp_stl WS.out.1 WS.out.2.1) WPs.out (by have := QL.out; omega)
      refine wpAnyH_ready (rs := [5]) (by kernel_rfl) (by simp) ?_
      refine cons2 rfl rfl (fun K9 hK => ?_)
      go_simp
      refine Calls.mono K5.out ?_
      rintro e V3 A2
      obtain ⟨xa, xm, xc, xa', xm', xc', er2, rfl, A3'⟩ := A2.form
      have A3 : Hid _ := A3'
      have g2 : Hid (Gw V2 V3 P sl'.ownBlock) := by
        rcases A3.out with ⟨_, _, _, ⟨_, _, _, q, _⟩, _⟩ | ⟨_, _, ⟨_, _, _, q, _⟩, _⟩
        · exact q
        · exact q
      have CV3 : Hid _ := CV2.out.kept (fun b hb => g2.out.block b (by have := SZ.out; have := bw.out.size; have := ZE.out; omega) (by have := LT.out; have := ZE.out; omega) (fun e => OO.out.nb b (by have := ZE.out; omega) (by omega) e.symm))
      have R3 : Hid _ := OO.out.r.kept ((g2.out.block E (by have := SZ.out; have := bw.out.size; omega) (by have := LT.out; have := ZE.out; omega) (fun e => OO.out.nb E (by have := ZE.out; omega) (by omega) e.symm)).trans (bw.out.block E (by have := SZ.out; omega)))
      have E3 : Hid _ := OO.out.e.kept ((g2.out.block (E + 1) (by have := SZ.out; have := bw.out.size; omega) (by have := LT.out; have := ZE.out; omega) (fun e => OO.out.nb (E + 1) (by have := ZE.out; omega) (by omega) e.symm)).trans (bw.out.block (E + 1) (by have := SZ.out; omega)))
      have BV3 : Hid _ := BV2.out.kept (g2.out.block B BV2.out.lt (by have := LT.out; have := HB.out; have := z5.out; have := ZE.out; omega) (BB.out.apart OO.out.sh))
      clear A2 A3' K5
      go_wp2_with fail
      refine hK.out _ _ ⟨CV3.out.b7.a0, CV3.out.b4.a0, BV3.out.c0, BV3.out.c1, BV3.out.c2, BV3.out.c3, BV3.out.c4⟩ (fun hX => ?_)
      clear hK K9 hHeld
      have hHeld := hX
      clear hX
      try simp only [Act.put, List.setIfInBounds_toArray, List.set_cons_zero, List.set_cons_succ]
      refine take2 rfl (i := 6) (v := (.tuple #[.agg #[.slice xa xm xc, .slice xa' xm' xc'], .int .i64 er2])) (d := 28) rfl rfl (by kernel_rfl) (by kernel_rfl) (by kernel_rfl) (fun _ _ _ h => h) (Or.inl ⟨by rfl, ?_⟩) hHeld ?_
      · (intro W hW; (try dsimp only at hW); go_simp)
      try simp only [Act.put, List.setIfInBounds_toArray, List.set_cons_zero, List.set_cons_succ]
      refine take2 rfl (i := 7) (v := (.agg #[.slice xa xm xc, .slice xa' xm' xc'])) (d := 35) rfl rfl (by kernel_rfl) (by kernel_rfl) (by kernel_rfl) (fun _ _ _ h => h) (Or.inl ⟨by rfl, ?_⟩) hHeld ?_
      · (intro W hW; (try dsimp only at hW); go_simp)
      try simp only [Act.put, List.setIfInBounds_toArray, List.set_cons_zero, List.set_cons_succ]
      refine take2 rfl (i := 8) (v := (.int .i64 er2)) (d := 36) rfl rfl (by kernel_rfl) (by kernel_rfl) (by kernel_rfl) (fun _ _ _ h => h) (Or.inl ⟨by rfl, ?_⟩) hHeld ?_
      · (intro W hW; (try dsimp only at hW); go_simp)
      try simp only [Act.put, List.setIfInBounds_toArray, List.set_cons_zero, List.set_cons_succ]
      have r0 := R3.out.a0
      have r1 := R3.out.a1
      have rz := R3.out.fz
      have X1 : Hid _ := R3.out.put (.slice xa xm xc) (.slice xa' xm' xc')
      have kb : Hid (∀ b', b' < V3.heap.size → b' ≠ E → ((V3.setCell ⟨E, 0, none⟩ (.slice xa xm xc)).setCell ⟨E, 1, none⟩ (.slice xa' xm' xc')).heap[b']? = V3.heap[b']?) := fun b' h1 h2 => X1.out.2.block b' h1 (fun e => h2 (Option.some.inj e))
      have sz3 : Hid (E + 3 ≤ V3.heap.size) := (by have := SZ.out; have := bw.out.size; have := g2.out.size; omega : E + 3 ≤ V3.heap.size)
      have CV4 : Hid _ := CV3.out.kept (fun b' hb => kb.out b' (by have := sz3.out; have := ZE.out; omega) (by have := ZE.out; omega))
      have BV4 : Hid _ := BV3.out.kept (kb.out B BV3.out.lt (by have := HB.out; have := z5.out; omega))
      have E4 : Hid _ := E3.out.kept (kb.out (E + 1) (by have := sz3.out; omega) (by omega))
      refine wpAnyH_ready (rs := [9]) (by kernel_rfl) (by simp) ?_
      refine cons2 rfl rfl (fun K9 hK => ?_)
      go_simp
      refine hK.out _ _ ⟨CV4.out.b7.a0, CV4.out.b4.a0, BV4.out.c0, BV4.out.c1, BV4.out.c2, BV4.out.c3, BV4.out.c4⟩ (fun hX => ?_)
      clear hK K9 hHeld
      have hHeld := hX
      clear hX
      try simp only [Act.put, List.setIfInBounds_toArray, List.set_cons_zero, List.set_cons_succ]
      clear r0 r1 rz
      have r0 := E4.out.a0
      have rz := E4.out.fz
      have X2 : Hid _ := E4.out.put (.int .i64 er2)
      have CV5 : Hid _ := CV4.out.kept (fun b' hb => X2.out.2.block b' (by have := sz3.out; have := X1.out.2.size; have := ZE.out; omega) (fun e => by have := Option.some.inj e; have := ZE.out; omega))
      have BV5 : Hid _ := BV4.out.kept (X2.out.2.block B BV4.out.lt (fun e => by have := Option.some.inj e; have := HB.out; have := z5.out; omega))
      refine wpAnyH_ready (rs := [10]) (by kernel_rfl) (by simp) ?_
      refine cons2 rfl rfl (fun K9 hK => ?_)
      go_simp
      refine hK.out _ _ ⟨CV5.out.b7.a0, CV5.out.b4.a0, BV5.out.c0, BV5.out.c1, BV5.out.c2, BV5.out.c3, BV5.out.c4⟩ (fun hX => ?_)
      clear hK K9 hHeld hX r0 rz
      try simp only [Act.put, List.setIfInBounds_toArray, List.set_cons_zero, List.set_cons_succ]
      refine wpAnyH_done (by kernel_rfl) ?_ _
      have FIN : Hid _ := ClI.step (sh := sh) (s := leftR Q.1 (withR pp xi Q.2)) (bs := b) (B := w5.heap.size) rfl ZE.out LT.out CB.out GW.out SZ.out OO.out bw.out A3.out QT.out (fun B' hB' => HH.out.newer B' hB') (by have := z5.out; omega)
      gi_wp2
      refine ⟨FIN.out.2.1, FIN.out.2.2 ⟨(ST.out.own.lt b (own.out (by have := XL.out; omega))).2, SB.out b (own.out (by have := XL.out; omega))⟩, ?_⟩
      dsimp only
      rw [QS.out, List.length_append]
      exact FIN.out.1
    · have OO : Hid _ := o
      have e0 := o.e.a0
      clear o
      gi_wp2
      refine region_round (S := (fun W => W.cell? ⟨E + 1, 0, none⟩ = some (.int .i64 4))) (by kernel_rfl) (fun ⟨_, _, h⟩ => h) (by kernel_rfl) (OO.out.e.below (Below.refl W.heap.size W).drew).a0 (fun hHeld => ?_)
      have dr : Hid (Below W.heap.size W W.drew) := (Below.refl W.heap.size W).drew
      generalize W.drew = V at *
      refine take2 rfl (i := 0) (v := (.int .i64 4)) (d := 27) rfl rfl (by kernel_rfl) (by kernel_rfl) (by kernel_rfl) (fun _ _ _ h => h) (Or.inl ⟨by rfl, ?_⟩) hHeld ?_
      · (intro W hW; (try dsimp only at hW); go_simp)
      try simp only [Act.put, List.setIfInBounds_toArray, List.set_cons_zero, List.set_cons_succ]
      have e8 : V.cell? ⟨w.heap.size + 1 + 1 + 1, 0, none⟩ = some (.int .u64 0) := (CB.out.b8.below dr.out).a0
      have f8 : ∀ i, V.frozen? ⟨w.heap.size + 1 + 1 + 1, i, none⟩ = false := (CB.out.b8.below dr.out).fz
      refine wpAnyH_ready (rs := [1]) (by kernel_rfl) (by simp) ?_
      refine cons2 rfl rfl (fun K9 hK => ?_)
      go_simp
      have X8 : Hid _ := (CB.out.b8.below dr.out).put (.int .u64 0)
      have g9 : Hid _ := (CB.out.b9.below dr.out).kept (X8.out.2.block _ (CB.out.b9.below dr.out).lt (fun e => by have := Option.some.inj e; omega))
      have ge : Hid _ := (OO.out.e.below dr.out).kept (X8.out.2.block _ (OO.out.e.below dr.out).lt (fun e => by have := Option.some.inj e; have := ZE.out; omega))
      have e9 : (V.setCell ⟨w.heap.size + 1 + 1 + 1, 0, none⟩ (.int .u64 0)).cell? ⟨w.heap.size + 1 + 1 + 1 + 1, 0, none⟩ = some (.int .i64 0) := g9.out.a0
      have f9 : ∀ i, (V.setCell ⟨w.heap.size + 1 + 1 + 1, 0, none⟩ (.int .u64 0)).frozen? ⟨w.heap.size + 1 + 1 + 1 + 1, i, none⟩ = false := g9.out.fz
      refine hK.out _ _ ge.out.a0 (fun hX => ?_)
      clear hK K9 hHeld
      have hHeld := hX
      clear hX
      try simp only [Act.put, List.setIfInBounds_toArray, List.set_cons_zero, List.set_cons_succ]
      refine wpAnyH_ready (rs := [2]) (by kernel_rfl) (by simp) ?_
      refine cons2 rfl rfl (fun K9 hK => ?_)
      go_simp
      have X9 : Hid _ := g9.out.put (.int .i64 4)
      have ge2 : Hid _ := ge.out.kept (X9.out.2.block _ ge.out.lt (fun e => by have := Option.some.inj e; have := ZE.out; omega))
      refine hK.out _ _ ge2.out.a0 (fun hX => ?_)
      clear hK K9 hHeld hX e8 f8 e9 f9 e0
      try simp only [Act.put, List.setIfInBounds_toArray, List.set_cons_zero, List.set_cons_succ]
      refine wpAnyH_done (by kernel_rfl) ?_ _
      gi_wp2
      exact ClI.bad rfl ZE.out LT.out CB.out GW.out SZ.out OO.out dr.out (by have := z5.out; omega)
  case done =>
    rintro D xs U hD rfl hI hK
    rw [Qf_all _ pre _ _ sl2.out] at hI
    have DU : Hid (U.heap[D]? = some (.deferred (some []))) := hK
    have DL : Hid (w5.heap.size ≤ D) := hD
    have BL : Hid ((backs sts.length sts.length).length ≤ sts.length) := Nat.le_of_eq backs_lenA
    generalize (backs sts.length sts.length).length = kq at *
    have QT : Hid (∃ t0, (upG leftR pre (leftR sh lp)).1 = sh ++ t0) := by
      obtain ⟨t2, e2⟩ := sg_left.grow sh lp
      obtain ⟨t1, e1⟩ := upG_grow sg_left pre (leftR sh lp)
      exact ⟨t2 ++ t1, by rw [e1, e2, List.append_assoc]⟩
    obtain ⟨Q, hQ⟩ : ∃ Q, Q = upG leftR pre (leftR sh lp) := ⟨_, rfl⟩
    rw [← hQ] at hI HQ QT
    have QE : Hid (upG leftR pre (leftR sh lp) = Q) := hQ.symm
    clear hQ
    obtain ⟨hcb, hgw, hsz, hst⟩ := hI
    have SZ : Hid _ := hsz
    clear hK hD HR HC HA HP LP ST SB KS bl had own lay SBB LAY5 CI
    rcases hst with ⟨kk, ii, sl', vs', n', o⟩ | ⟨a, m, c, a', m', c', sl', vs', t, o⟩
    · have OO : Hid _ := o
      obtain ⟨ri, rc, ei⟩ := o.rv.ni
      obtain ⟨rk, rkc, ek⟩ := o.rv.nk
      subst ei ek
      have CB : Hid _ := hcb
      have CE : Hid _ := o.e
      have CR : Hid _ := o.r
      have C8 : Hid _ := hcb.b8
      have C9 : Hid _ := hcb.b9
      have SS : Hid _ := o.sh
      have GG : Hid _ := hgw
      have NB : Hid _ := o.nb
      have N0 : Hid _ := o.n0
      have RV : Hid _ := o.rv
      have NN : Hid (n ≤ n' ∧ n' ≤ n + 60 ∧ (ill = 0 ∨ n' < ill)) := ⟨o.n1, by have := o.n2; have := sl2.out; have := BL.out; omega, o.wl⟩
      clear o hcb hgw hsz
      have hq2 := HQ.out.1
      rcases (by omega : Q.2.kids.length = 0 ∨ Q.2.kids.length = 1 ∨ Q.2.kids.length = 2) with h0 | h1 | h2
      · have CR : Hid (Bd2 U E (.slice rk Q.2.keys.length rkc) (.slice ri 0 rc)) := by rw [← h0]; exact CR.out
        have RV : Hid (RunV U (.slice rk Q.2.keys.length rkc) (.slice ri 0 rc) Q.2) := by rw [← h0]; exact RV.out
        have hk0 : Q.2.kids = [] := List.eq_nil_of_length_eq_zero h0
        have ER : rootR Q = (Q.1, 0) := by
          have e1 : Q = (Q.1, ⟨Q.2.keys, []⟩) := by rw [← hk0]
          rw [e1]; exact rootR_none
        have RT : Hid _ := ER
        clear ER hk0 h0
        have r0 := CE.out.a0
        have r1 := CR.out.a1
        go_wp2
        clear r0 r1
        refine wp_region_held_drew (S := (fun W => W.cell? ⟨E + 1, 0, none⟩ = some (.int .i64 0))) (by kernel_rfl) (CE.out.below (Below.refl U.heap.size U).drew).a0 (fun hHeld => ?_)
        have dr : Hid (Below U.heap.size U U.drew) := (Below.refl U.heap.size U).drew
        have DV : Hid (U.drew.heap[D]? = some (.deferred (some []))) := DU.out
        generalize U.drew = V at *
        have X8 : Hid _ := (C8.out.below dr.out).put (.int .u64 0)
        have g9 : Hid _ := (C9.out.below dr.out).kept (X8.out.2.block _ (C9.out.below dr.out).lt (fun e => by have := Option.some.inj e; omega))
        have ge : Hid _ := (CE.out.below dr.out).kept (X8.out.2.block _ (CE.out.below dr.out).lt (fun e => by have := Option.some.inj e; have := ZE.out; omega))
        have X9 : Hid _ := g9.out.put (.int .i64 0)
        have ge2 : Hid _ := ge.out.kept (X9.out.2.block _ ge.out.lt (fun e => by have := Option.some.inj e; have := ZE.out; omega))
        refine wpAnyH_ready (rs := [0, 1]) (by kernel_rfl) (by simp) ?_
        refine cons22 rfl rfl rfl (fun K9 hK => ?_) (fun K9 hK => ?_)
        · have q0 : V.cell? ⟨E + 1, 0, none⟩ = some (.int .i64 0) := (CE.out.below dr.out).a0
          go_simp
          go_wp2_with fail
          clear q0
          refine hK.out _ _ (CE.out.below dr.out).a0 (fun hX => ?_)
          clear hK K9 hHeld
          have hHeld := hX
          clear hX
          try simp only [Act.put, List.setIfInBounds_toArray, List.set_cons_zero, List.set_cons_succ]
          refine wpAnyH_ready (rs := [1]) (by kernel_rfl) (by simp) ?_
          refine cons2 rfl rfl (fun K9 hK => ?_)
          have e8 : V.cell? ⟨w.heap.size + 1 + 1 + 1, 0, none⟩ = some (.int .u64 0) := (C8.out.below dr.out).a0
          have f8 : ∀ i, V.frozen? ⟨w.heap.size + 1 + 1 + 1, i, none⟩ = false := (C8.out.below dr.out).fz
          go_simp
          go_wp2_with fail
          clear e8 f8
          refine hK.out _ _ ge.out.a0 (fun hX => ?_)
          clear hK K9 hHeld
          have hHeld := hX
          clear hX
          try simp only [Act.put, List.setIfInBounds_toArray, List.set_cons_zero, List.set_cons_succ]
          refine wpAnyH_ready (rs := [2]) (by kernel_rfl) (by simp) ?_
          refine cons2 rfl rfl (fun K9 hK => ?_)
          have e9 : (V.setCell ⟨w.heap.size + 1 + 1 + 1, 0, none⟩ (.int .u64 0)).cell? ⟨w.heap.size + 1 + 1 + 1 + 1, 0, none⟩ = some (.int .i64 0) := g9.out.a0
          have f9 : ∀ i, (V.setCell ⟨w.heap.size + 1 + 1 + 1, 0, none⟩ (.int .u64 0)).frozen? ⟨w.heap.size + 1 + 1 + 1 + 1, i, none⟩ = false := g9.out.fz
          go_simp
          go_wp2_with fail
          clear e9 f9
          refine hK.out _ _ ge2.out.a0 (fun hX => ?_)
          clear hK K9 hHeld hX
          try simp only [Act.put, List.setIfInBounds_toArray, List.set_cons_zero, List.set_cons_succ]
          refine wpAnyH_done (by kernel_rfl) ?_ _
          go_wp2
          obtain ⟨XS, XG, XD, X3, X4⟩ := fin2 (.int .u64 0) (.int .i64 0) rfl LT.out (C8.out.below dr.out) (C9.out.below dr.out) nt_u64z (nt_i64 _) (SS.out.below dr.out) (GG.out.next dr.out) (NB.out _ (by omega) (Or.inl (by omega))) (NB.out _ (by omega) (Or.inl (by omega))) DV.out
          have P1 := cellPut X3 XD (.deferred none)
          have P2 := cellPut X4 XD (.deferred none)
          refine ⟨by simp, .inl ⟨_, _, rfl, run_takeDeferred XD, ?_⟩⟩
          refine ⟨.tuple #[.int .u64 0, .int .i64 0], by simp [results, Try.results30, go_sem, P1, P2], ?_⟩
          show ClP w _ P sl sh ill n (rootR (upG leftR pre (leftR sh lp))) _; rw [QE.out, RT.out]; exact ClP.ok (R := (Q.1, 0)) XS XG N0.out XD (by have := DL.out; have := z5.out; have := ZE.out; omega) NN.out.1 NN.out.2.1 NN.out.2.2
        · have e8 : V.cell? ⟨w.heap.size + 1 + 1 + 1, 0, none⟩ = some (.int .u64 0) := (C8.out.below dr.out).a0
          have f8 : ∀ i, V.frozen? ⟨w.heap.size + 1 + 1 + 1, i, none⟩ = false := (C8.out.below dr.out).fz
          go_simp
          go_wp2_with fail
          clear e8 f8
          refine hK.out _ _ ge.out.a0 (fun hX => ?_)
          clear hK K9 hHeld
          have hHeld := hX
          clear hX
          try simp only [Act.put, List.setIfInBounds_toArray, List.set_cons_zero, List.set_cons_succ]
          refine wpAnyH_ready (rs := [0]) (by kernel_rfl) (by simp) ?_
          refine cons2 rfl rfl (fun K9 hK => ?_)
          have q0 : (V.setCell ⟨w.heap.size + 1 + 1 + 1, 0, none⟩ (.int .u64 0)).cell? ⟨E + 1, 0, none⟩ = some (.int .i64 0) := ge.out.a0
          go_simp
          go_wp2_with fail
          clear q0
          refine hK.out _ _ ge.out.a0 (fun hX => ?_)
          clear hK K9 hHeld
          have hHeld := hX
          clear hX
          try simp only [Act.put, List.setIfInBounds_toArray, List.set_cons_zero, List.set_cons_succ]
          refine wpAnyH_ready (rs := [2]) (by kernel_rfl) (by simp) ?_
          refine cons2 rfl rfl (fun K9 hK => ?_)
          have e9 : (V.setCell ⟨w.heap.size + 1 + 1 + 1, 0, none⟩ (.int .u64 0)).cell? ⟨w.heap.size + 1 + 1 + 1 + 1, 0, none⟩ = some (.int .i64 0) := g9.out.a0
          have f9 : ∀ i, (V.setCell ⟨w.heap.size + 1 + 1 + 1, 0, none⟩ (.int .u64 0)).frozen? ⟨w.heap.size + 1 + 1 + 1 + 1, i, none⟩ = false := g9.out.fz
          go_simp
          go_wp2_with fail
          clear e9 f9
          refine hK.out _ _ ge2.out.a0 (fun hX => ?_)
          clear hK K9 hHeld hX
          try simp only [Act.put, List.setIfInBounds_toArray, List.set_cons_zero, List.set_cons_succ]
          refine wpAnyH_done (by kernel_rfl) ?_ _
          go_wp2
          obtain ⟨XS, XG, XD, X3, X4⟩ := fin2 (.int .u64 0) (.int .i64 0) rfl LT.out (C8.out.below dr.out) (C9.out.below dr.out) nt_u64z (nt_i64 _) (SS.out.below dr.out) (GG.out.next dr.out) (NB.out _ (by omega) (Or.inl (by omega))) (NB.out _ (by omega) (Or.inl (by omega))) DV.out
          have P1 := cellPut X3 XD (.deferred none)
          have P2 := cellPut X4 XD (.deferred none)
          refine ⟨by simp, .inl ⟨_, _, rfl, run_takeDeferred XD, ?_⟩⟩
          refine ⟨.tuple #[.int .u64 0, .int .i64 0], by simp [results, Try.results30, go_sem, P1, P2], ?_⟩
          show ClP w _ P sl sh ill n (rootR (upG leftR pre (leftR sh lp))) _; rw [QE.out, RT.out]; exact ClP.ok (R := (Q.1, 0)) XS XG N0.out XD (by have := DL.out; have := z5.out; have := ZE.out; omega) NN.out.1 NN.out.2.1 NN.out.2.2

      · have CR : Hid (Bd2 U E (.slice rk Q.2.keys.length rkc) (.slice ri 1 rc)) := by rw [← h1]; exact CR.out
        have RV : Hid (RunV U (.slice rk Q.2.keys.length rkc) (.slice ri 1 rc) Q.2) := by rw [← h1]; exact RV.out
        obtain ⟨kid, hk1⟩ : ∃ kid, Q.2.kids = [kid] := List.length_eq_one_iff.1 h1
        have ER : rootR Q = (Q.1, kid) := by
          have e1 : Q = (Q.1, ⟨Q.2.keys, [kid]⟩) := by rw [← hk1]
          rw [e1]; exact rootR_one
        have RT : Hid _ := ER
        have KE : Hid _ := hk1
        clear ER hk1 h1
        have KID : Hid (∃ kb ko, ri = some ⟨kb, ko, none⟩ ∧ U.cell? ⟨kb, ko, none⟩ = some (.int .u64 (kid : Nat))) := by
          rcases RV.out.kd with ⟨e1, e2⟩ | ⟨b', o', m', c', e1, _, e2, e3⟩
          · rw [KE.out] at e1; cases e1
          · injection e1 with q1 q2 q3
            have q4 := e3.cell
            refine ⟨b', o', q1, ?_⟩
            obtain ⟨b2, o2, q5, q6⟩ := q4
            have q7 := q5 (by rw [← e2, KE.out]; simp)
            injection q7 with q7
            injection q7 with q8 q9
            subst q8 q9
            exact q6 0 _ (by rw [KE.out]; rfl)
        have r0 := CE.out.a0
        have r1 := CR.out.a1
        go_upto_region 11 with fail
        clear r0 r1
        obtain ⟨kb, ko, rfl, kc0⟩ := KID.out
        have r1 := CR.out.a1
        have r8 := C8.out.a0
        have z8 := C8.out.fz
        have X8 : Hid _ := C8.out.put (.int .u64 (kid : Nat))
        have g9 : Hid _ := C9.out.kept (X8.out.2.block _ C9.out.lt (fun e => by have := Option.some.inj e; omega))
        have r9 : (U.setCell ⟨w.heap.size + 1 + 1 + 1, 0, none⟩ (.int .u64 (kid : Nat))).cell? ⟨w.heap.size + 1 + 1 + 1 + 1, 0, none⟩ = some (.int .i64 0) := g9.out.a0
        have z9 : ∀ i, (U.setCell ⟨w.heap.size + 1 + 1 + 1, 0, none⟩ (.int .u64 (kid : Nat))).frozen? ⟨w.heap.size + 1 + 1 + 1 + 1, i, none⟩ = false := g9.out.fz
        go_wp2
        obtain ⟨XS, XG, XD, X3, X4⟩ := fin2 (.int .u64 (kid : Nat)) (.int .i64 0) rfl LT.out C8.out C9.out nt_u64z (nt_i64 _) SS.out GG.out (NB.out _ (by omega) (Or.inl (by omega))) (NB.out _ (by omega) (Or.inl (by omega))) DU.out
        have P1 := cellPut X3 XD (.deferred none)
        have P2 := cellPut X4 XD (.deferred none)
        refine ⟨by simp, .inl ⟨_, _, rfl, run_takeDeferred XD, ?_⟩⟩
        refine ⟨.tuple #[.int .u64 (kid : Nat), .int .i64 0], by simp [results, Try.results30, go_sem, P1, P2], ?_⟩
        show ClP w _ P sl sh ill n (rootR (upG leftR pre (leftR sh lp))) _; rw [QE.out, RT.out]; exact ClP.ok (R := (Q.1, kid)) XS XG N0.out XD (by have := DL.out; have := z5.out; have := ZE.out; omega) NN.out.1 NN.out.2.1 NN.out.2.2

      · have CR : Hid (Bd2 U E (.slice rk Q.2.keys.length rkc) (.slice ri 2 rc)) := by rw [← h2]; exact CR.out
        have RV : Hid (RunV U (.slice rk Q.2.keys.length rkc) (.slice ri 2 rc) Q.2) := by rw [← h2]; exact RV.out
        have AD : Hid _ := HQ.out.2.2 (by omega)
        have HQ1 : Hid (Q.1.length ≤ 900000) := HQ.out.2.1
        have ER : rootR Q = ((halvR Q.1 ⟨false, Q.2.keys, [], Q.2.kids⟩).1, (halvR Q.1 ⟨false, Q.2.keys, [], Q.2.kids⟩).2.kids.getD 0 0) := by
          unfold rootR; rw [if_pos (by omega)]
        have RT : Hid _ := ER
        clear ER h2
        have r0 := CE.out.a0
        have r1 := CR.out.a1
        have r2 := CR.out.a0
        have r4 := CB.out.b4.a0
        unfold ifP at r4
        have K5 : Hid _ := KR.out U sl' vs' Q.1 n' _ _ SS.out (by have := OO.out.n2; have := sl2.out; have := BL.out; omega) OO.out.wl RV.out.pv AD.out.1 AD.out.2 HQ1.out
        go_upto_region 8 with fail
        go_wp2_with fail
        refine Calls.mono K5.out ?_
        rintro e V3 A2
        obtain ⟨xa, xm, xc, xa', xm', xc', er2, rfl, A3'⟩ := A2.form
        have A3 : Hid _ := A3'
        have g2 : Hid (Gw U V3 P sl'.ownBlock) := by
          rcases A3.out with ⟨_, _, _, ⟨_, _, _, q, _⟩, _⟩ | ⟨_, _, ⟨_, _, _, q, _⟩, _⟩
          · exact q
          · exact q
        have R3 : Hid _ := CR.out.kept (g2.out.block E (by have := SZ.out; omega) (by have := LT.out; have := ZE.out; omega) (fun e => NB.out E (by have := ZE.out; omega) (by omega) e.symm))
        have E3 : Hid _ := CE.out.kept (g2.out.block (E + 1) (by have := SZ.out; omega) (by have := LT.out; have := ZE.out; omega) (fun e => NB.out (E + 1) (by have := ZE.out; omega) (by omega) e.symm))
        have FIN : Hid _ := (ClI.step (sh := sh) (s := halvR Q.1 ⟨false, Q.2.keys, [], Q.2.kids⟩) (bs := 0) (B := w5.heap.size) rfl ZE.out LT.out CB.out GG.out SZ.out OO.out (Below.refl _ _) A3.out QT.out (fun B' hB' => HH.out.newer B' hB') (by have := z5.out; omega)).1
        have DU5 : Hid ((((V3.setCell ⟨E, 0, none⟩ (.slice xa xm xc)).setCell ⟨E, 1, none⟩ (.slice xa' xm' xc')).setCell ⟨E + 1, 0, none⟩ (.int .i64 er2)).heap[D]? = some (.deferred (some []))) := by
          have l1 := DL.out
          have l2 := z5.out
          have l3 := ZE.out
          rw [Below.heap_setCell _ ⟨E + 1, 0, none⟩ _ _ (by show D ≠ E + 1; omega), Below.heap_setCell _ ⟨E, 1, none⟩ _ _ (by show D ≠ E; omega), Below.heap_setCell _ ⟨E, 0, none⟩ _ _ (by show D ≠ E; omega)]
          refine (g2.out.block D (Array.getElem?_eq_some_iff.1 DU.out).1 (by have := LT.out; omega) (fun e => ?_)).trans DU.out
          rcases SS.out.own.2 with ⟨q1, _⟩ | ⟨g, cap, cur, hv, _, hg, _⟩
          · rw [q1] at e; cases e
          · rw [hv] at e
            have : g = D := by simpa [Value.ownBlock] using e.symm
            rw [this, DU.out] at hg
            cases hg
        clear A2 A3' K5 r0 r1 r2 r4
        have s0 := R3.out.a0
        have s1 := R3.out.a1
        have sz := R3.out.fz
        have X1 : Hid _ := R3.out.put (.slice xa xm xc) (.slice xa' xm' xc')
        have E4 : Hid _ := E3.out.kept (X1.out.2.block (E + 1) E3.out.lt (fun e => by have := Option.some.inj e; omega))
        have t0 := E4.out.a0
        have tz := E4.out.fz
        go_upto_region 9 with fail
        clear s0 s1 sz t0 tz X1 E4 R3 E3 CB CE CR C8 C9 SS GG NB N0 DU g2 NN
        generalize (((V3.setCell ⟨E, 0, none⟩ (.slice xa xm xc)).setCell ⟨E, 1, none⟩ (.slice xa' xm' xc')).setCell ⟨E + 1, 0, none⟩ (.int .i64 er2)) = U2 at *
        clear A3
        have DU : Hid _ := DU5.out
        obtain ⟨hcb, hgw, hsz, hst⟩ := FIN.out
        have HK : Hid (1 ≤ (halvR Q.1 ⟨false, Q.2.keys, [], Q.2.kids⟩).2.kids.length) := halv_kid _ _
        generalize halvR Q.1 ⟨false, Q.2.keys, [], Q.2.kids⟩ = Q2 at *
        clear FIN DU5 RV
        rcases hst with ⟨kk, ii, sl4, vs4, n4, o⟩ | ⟨a, m, c, a', m', c', sl4, vs4, t, o⟩
        · obtain ⟨ri, rc, ei⟩ := o.rv.ni
          subst ei
          have CB : Hid _ := hcb
          have CE : Hid _ := o.e
          have CR : Hid _ := o.r
          have C8 : Hid _ := hcb.b8
          have C9 : Hid _ := hcb.b9
          have SS : Hid _ := o.sh
          have GG : Hid _ := hgw
          have NB : Hid _ := o.nb
          have N0 : Hid _ := o.n0
          have RV : Hid _ := o.rv
          have NN : Hid (n ≤ n4 ∧ n4 ≤ n + 60 ∧ (ill = 0 ∨ n4 < ill)) := ⟨o.n1, by have := o.n2; have := sl2.out; have := BL.out; omega, o.wl⟩
          clear o hcb hgw hsz
          obtain ⟨kid, l', hk⟩ : ∃ kid l', Q2.2.kids = kid :: l' := by
            have := HK.out
            cases e : Q2.2.kids with
            | nil => rw [e] at this; simp at this
            | cons x l' => exact ⟨x, l', rfl⟩
          have KE : Hid _ := hk
          have hl' : Q2.2.kids.length = l'.length + 1 := by rw [hk]; rfl
          have EQ : Hid (Q2.2.kids.getD 0 0 = kid) := by rw [hk]; rfl
          clear hk
          have KID : Hid (∃ kb ko, ri = some ⟨kb, ko, none⟩ ∧ U2.cell? ⟨kb, ko, none⟩ = some (.int .u64 (kid : Nat))) := by
            rcases RV.out.kd with ⟨e1, e2⟩ | ⟨b', o', m', c', e1, _, e2, e3⟩
            · rw [KE.out] at e1; cases e1
            · injection e1 with q1 q2 q3
              have q4 := e3.cell
              refine ⟨b', o', q1, ?_⟩
              obtain ⟨b2, o2, q5, q6⟩ := q4
              have q7 := q5 (by rw [← e2, KE.out]; simp)
              injection q7 with q7
              injection q7 with q8 q9
              subst q8 q9
              exact q6 0 _ (by rw [KE.out]; rfl)
          rw [hl'] at CR
          have r0 := CE.out.a0
          have r1 := CR.out.a1
          go_upto_region 11 with fail
          clear r0 r1
          obtain ⟨kb, ko, rfl, kc0⟩ := KID.out
          have r1 := CR.out.a1
          have r8 := C8.out.a0
          have z8 := C8.out.fz
          have X8 : Hid _ := C8.out.put (.int .u64 (kid : Nat))
          have g9 : Hid _ := C9.out.kept (X8.out.2.block _ C9.out.lt (fun e => by have := Option.some.inj e; omega))
          have r9 : (U2.setCell ⟨w.heap.size + 1 + 1 + 1, 0, none⟩ (.int .u64 (kid : Nat))).cell? ⟨w.heap.size + 1 + 1 + 1 + 1, 0, none⟩ = some (.int .i64 0) := g9.out.a0
          have z9 : ∀ i, (U2.setCell ⟨w.heap.size + 1 + 1 + 1, 0, none⟩ (.int .u64 (kid : Nat))).frozen? ⟨w.heap.size + 1 + 1 + 1 + 1, i, none⟩ = false := g9.out.fz
          go_wp2
          obtain ⟨XS, XG, XD, X3, X4⟩ := fin2 (.int .u64 (kid : Nat)) (.int .i64 0) rfl LT.out C8.out C9.out nt_u64z (nt_i64 _) SS.out GG.out (NB.out _ (by omega) (Or.inl (by omega))) (NB.out _ (by omega) (Or.inl (by omega))) DU.out
          have P1 := cellPut X3 XD (.deferred none)
          have P2 := cellPut X4 XD (.deferred none)
          refine ⟨by simp, .inl ⟨_, _, rfl, run_takeDeferred XD, ?_⟩⟩
          refine ⟨.tuple #[.int .u64 (kid : Nat), .int .i64 0], by simp [results, Try.results30, go_sem, P1, P2], ?_⟩
          show ClP w _ P sl sh ill n (rootR (upG leftR pre (leftR sh lp))) _; rw [QE.out, RT.out, EQ.out]; exact ClP.ok (R := (Q2.1, kid)) XS XG N0.out XD (by have := DL.out; have := z5.out; have := ZE.out; omega) NN.out.1 NN.out.2.1 NN.out.2.2
        · have CB : Hid _ := hcb
          have CE : Hid _ := o.e
          have CR : Hid _ := o.r
          have C8 : Hid _ := hcb.b8
          have C9 : Hid _ := hcb.b9
          have SS : Hid _ := o.sh
          have GG : Hid _ := hgw
          have NB : Hid _ := o.nb
          have N0 : Hid _ := o.n0
          have IZ : Hid _ := o.iz
          clear o hcb hgw hsz
          have r0 := CE.out.a0
          have r1 := CR.out.a1
          go_wp2
          clear r0 r1
          refine wp_region_held_drew (S := (fun W => W.cell? ⟨E + 1, 0, none⟩ = some (.int .i64 4))) (by kernel_rfl) (CE.out.below (Below.refl U2.heap.size U2).drew).a0 (fun hHeld => ?_)
          have dr : Hid (Below U2.heap.size U2 U2.drew) := (Below.refl U2.heap.size U2).drew
          have DV : Hid (U2.drew.heap[D]? = some (.deferred (some []))) := DU.out
          generalize U2.drew = V at *
          have X8 : Hid _ := (C8.out.below dr.out).put (.int .u64 0)
          have g9 : Hid _ := (C9.out.below dr.out).kept (X8.out.2.block _ (C9.out.below dr.out).lt (fun e => by have := Option.some.inj e; omega))
          have ge : Hid _ := (CE.out.below dr.out).kept (X8.out.2.block _ (CE.out.below dr.out).lt (fun e => by have := Option.some.inj e; have := ZE.out; omega))
          have X9 : Hid _ := g9.out.put (.int .i64 4)
          have ge2 : Hid _ := ge.out.kept (X9.out.2.block _ ge.out.lt (fun e => by have := Option.some.inj e; have := ZE.out; omega))
          refine wpAnyH_ready (rs := [0, 1]) (by kernel_rfl) (by simp) ?_
          refine cons22 rfl rfl rfl (fun K9 hK => ?_) (fun K9 hK => ?_)
          · have q0 : V.cell? ⟨E + 1, 0, none⟩ = some (.int .i64 4) := (CE.out.below dr.out).a0
            go_simp
            go_wp2_with fail
            clear q0
            refine hK.out _ _ (CE.out.below dr.out).a0 (fun hX => ?_)
            clear hK K9 hHeld
            have hHeld := hX
            clear hX
            try simp only [Act.put, List.setIfInBounds_toArray, List.set_cons_zero, List.set_cons_succ]
            refine wpAnyH_ready (rs := [1]) (by kernel_rfl) (by simp) ?_
            refine cons2 rfl rfl (fun K9 hK => ?_)
            have e8 : V.cell? ⟨w.heap.size + 1 + 1 + 1, 0, none⟩ = some (.int .u64 0) := (C8.out.below dr.out).a0
            have f8 : ∀ i, V.frozen? ⟨w.heap.size + 1 + 1 + 1, i, none⟩ = false := (C8.out.below dr.out).fz
            go_simp
            go_wp2_with fail
            clear e8 f8
            refine hK.out _ _ ge.out.a0 (fun hX => ?_)
            clear hK K9 hHeld
            have hHeld := hX
            clear hX
            try simp only [Act.put, List.setIfInBounds_toArray, List.set_cons_zero, List.set_cons_succ]
            refine wpAnyH_ready (rs := [2]) (by kernel_rfl) (by simp) ?_
            refine cons2 rfl rfl (fun K9 hK => ?_)
            have e9 : (V.setCell ⟨w.heap.size + 1 + 1 + 1, 0, none⟩ (.int .u64 0)).cell? ⟨w.heap.size + 1 + 1 + 1 + 1, 0, none⟩ = some (.int .i64 0) := g9.out.a0
            have f9 : ∀ i, (V.setCell ⟨w.heap.size + 1 + 1 + 1, 0, none⟩ (.int .u64 0)).frozen? ⟨w.heap.size + 1 + 1 + 1 + 1, i, none⟩ = false := g9.out.fz
            go_simp
            go_wp2_with fail
            clear e9 f9
            refine hK.out _ _ ge2.out.a0 (fun hX => ?_)
            clear hK K9 hHeld hX
            try simp only [Act.put, List.setIfInBounds_toArray, List.set_cons_zero, List.set_cons_succ]
            refine wpAnyH_done (by kernel_rfl) ?_ _
            go_wp2
            obtain ⟨XS, XG, XD, X3, X4⟩ := fin2 (.int .u64 0) (.int .i64 4) rfl LT.out (C8.out.below dr.out) (C9.out.below dr.out) nt_u64z (nt_i64 _) (SS.out.below dr.out) (GG.out.next dr.out) (NB.out _ (by omega) (Or.inl (by omega))) (NB.out _ (by omega) (Or.inl (by omega))) DV.out
            have P1 := cellPut X3 XD (.deferred none)
            have P2 := cellPut X4 XD (.deferred none)
            refine ⟨by simp, .inl ⟨_, _, rfl, run_takeDeferred XD, ?_⟩⟩
            refine ⟨.tuple #[.int .u64 0, .int .i64 4], by simp [results, Try.results30, go_sem, P1, P2], ?_⟩
            exact ClP.bad XS XG N0.out XD (by have := DL.out; have := z5.out; have := ZE.out; omega) IZ.out
          · have e8 : V.cell? ⟨w.heap.size + 1 + 1 + 1, 0, none⟩ = some (.int .u64 0) := (C8.out.below dr.out).a0
            have f8 : ∀ i, V.frozen? ⟨w.heap.size + 1 + 1 + 1, i, none⟩ = false := (C8.out.below dr.out).fz
            go_simp
            go_wp2_with fail
            clear e8 f8
            refine hK.out _ _ ge.out.a0 (fun hX => ?_)
            clear hK K9 hHeld
            have hHeld := hX
            clear hX
            try simp only [Act.put, List.setIfInBounds_toArray, List.set_cons_zero, List.set_cons_succ]
            refine wpAnyH_ready (rs := [0]) (by kernel_rfl) (by simp) ?_
            refine cons2 rfl rfl (fun K9 hK => ?_)
            have q0 : (V.setCell ⟨w.heap.size + 1 + 1 + 1, 0, none⟩ (.int .u64 0)).cell? ⟨E + 1, 0, none⟩ = some (.int .i64 4) := ge.out.a0
            go_simp
            go_wp2_with fail
            clear q0
            refine hK.out _ _ ge.out.a0 (fun hX => ?_)
            clear hK K9 hHeld
            have hHeld := hX
            clear hX
            try simp only [Act.put, List.setIfInBounds_toArray, List.set_cons_zero, List.set_cons_succ]
            refine wpAnyH_ready (rs := [2]) (by kernel_rfl) (by simp) ?_
            refine cons2 rfl rfl (fun K9 hK => ?_)
            have e9 : (V.setCell ⟨w.heap.size + 1 + 1 + 1, 0, none⟩ (.int .u64 0)).cell? ⟨w.heap.size + 1 + 1 + 1 + 1, 0, none⟩ = some (.int .i64 0) := g9.out.a0
            have f9 : ∀ i, (V.setCell ⟨w.heap.size + 1 + 1 + 1, 0, none⟩ (.int .u64 0)).frozen? ⟨w.heap.size + 1 + 1 + 1 + 1, i, none⟩ = false := g9.out.fz
            go_simp
            go_wp2_with fail
            clear e9 f9
            refine hK.out _ _ ge2.out.a0 (fun hX => ?_)
            clear hK K9 hHeld hX
            try simp only [Act.put, List.setIfInBounds_toArray, List.set_cons_zero, List.set_cons_succ]
            refine wpAnyH_done (by kernel_rfl) ?_ _
            go_wp2
            obtain ⟨XS, XG, XD, X3, X4⟩ := fin2 (.int .u64 0) (.int .i64 4) rfl LT.out (C8.out.below dr.out) (C9.out.below dr.out) nt_u64z (nt_i64 _) (SS.out.below dr.out) (GG.out.next dr.out) (NB.out _ (by omega) (Or.inl (by omega))) (NB.out _ (by omega) (Or.inl (by omega))) DV.out
            have P1 := cellPut X3 XD (.deferred none)
            have P2 := cellPut X4 XD (.deferred none)
            refine ⟨by simp, .inl ⟨_, _, rfl, run_takeDeferred XD, ?_⟩⟩
            refine ⟨.tuple #[.int .u64 0, .int .i64 4], by simp [results, Try.results30, go_sem, P1, P2], ?_⟩
            exact ClP.bad XS XG N0.out XD (by have := DL.out; have := z5.out; have := ZE.out; omega) IZ.out
    · have CB : Hid _ := hcb
      have CE : Hid _ := o.e
      have CR : Hid _ := o.r
      have C8 : Hid _ := hcb.b8
      have C9 : Hid _ := hcb.b9
      have SS : Hid _ := o.sh
      have GG : Hid _ := hgw
      have NB : Hid _ := o.nb
      have N0 : Hid _ := o.n0
      have IZ : Hid _ := o.iz
      clear o hcb hgw hsz
      have r0 := CE.out.a0
      have r1 := CR.out.a1
      go_wp2
      clear r0 r1
      refine wp_region_held_drew (S := (fun W => W.cell? ⟨E + 1, 0, none⟩ = some (.int .i64 4))) (by kernel_rfl) (CE.out.below (Below.refl U.heap.size U).drew).a0 (fun hHeld => ?_)
      have dr : Hid (Below U.heap.size U U.drew) := (Below.refl U.heap.size U).drew
      have DV : Hid (U.drew.heap[D]? = some (.deferred (some []))) := DU.out
      generalize U.drew = V at *
      have X8 : Hid _ := (C8.out.below dr.out).put (.int .u64 0)
      have g9 : Hid _ := (C9.out.below dr.out).kept (X8.out.2.block _ (C9.out.below dr.out).lt (fun e => by have := Option.some.inj e; omega))
      have ge : Hid _ := (CE.out.below dr.out).kept (X8.out.2.block _ (CE.out.below dr.out).lt (fun e => by have := Option.some.inj e; have := ZE.out; omega))
      have X9 : Hid _ := g9.out.put (.int .i64 4)
      have ge2 : Hid _ := ge.out.kept (X9.out.2.block _ ge.out.lt (fun e => by have := Option.some.inj e; have := ZE.out; omega))
      refine wpAnyH_ready (rs := [0, 1]) (by kernel_rfl) (by simp) ?_
      refine cons22 rfl rfl rfl (fun K9 hK => ?_) (fun K9 hK => ?_)
      · have q0 : V.cell? ⟨E + 1, 0, none⟩ = some (.int .i64 4) := (CE.out.below dr.out).a0
        go_simp
        go_wp2_with fail
        clear q0
        refine hK.out _ _ (CE.out.below dr.out).a0 (fun hX => ?_)
        clear hK K9 hHeld
        have hHeld := hX
        clear hX
        try simp only [Act.put, List.setIfInBounds_toArray, List.set_cons_zero, List.set_cons_succ]
        refine wpAnyH_ready (rs := [1]) (by kernel_rfl) (by simp) ?_
        refine cons2 rfl rfl (fun K9 hK => ?_)
        have e8 : V.cell? ⟨w.heap.size + 1 + 1 + 1, 0, none⟩ = some (.int .u64 0) := (C8.out.below dr.out).a0
        have f8 : ∀ i, V.frozen? ⟨w.heap.size + 1 + 1 + 1, i, none⟩ = false := (C8.out.below dr.out).fz
        go_simp
        go_wp2_with fail
        clear e8 f8
        refine hK.out _ _ ge.out.a0 (fun hX => ?_)
        clear hK K9 hHeld
        have hHeld := hX
        clear hX
        try simp only [Act.put, List.setIfInBounds_toArray, List.set_cons_zero, List.set_cons_succ]
        refine wpAnyH_ready (rs := [2]) (by kernel_rfl) (by simp) ?_
        refine cons2 rfl rfl (fun K9 hK => ?_)
        have e9 : (V.setCell ⟨w.heap.size + 1 + 1 + 1, 0, none⟩ (.int .u64 0)).cell? ⟨w.heap.size + 1 + 1 + 1 + 1, 0, none⟩ = some (.int .i64 0) := g9.out.a0
        have f9 : ∀ i, (V.setCell ⟨w.heap.size + 1 + 1 + 1, 0, none⟩ (.int .u64 0)).frozen? ⟨w.heap.size + 1 + 1 + 1 + 1, i, none⟩ = false := g9.out.fz
        go_simp
        go_wp2_with fail
        clear e9 f9
        refine hK.out _ _ ge2.out.a0 (fun hX => ?_)
        clear hK K9 hHeld hX
        try simp only [Act.put, List.setIfInBounds_toArray, List.set_cons_zero, List.set_cons_succ]
        refine wpAnyH_done (by kernel_rfl) ?_ _
        go_wp2
        obtain ⟨XS, XG, XD, X3, X4⟩ := fin2 (.int .u64 0) (.int .i64 4) rfl LT.out (C8.out.below dr.out) (C9.out.below dr.out) nt_u64z (nt_i64 _) (SS.out.below dr.out) (GG.out.next dr.out) (NB.out _ (by omega) (Or.inl (by omega))) (NB.out _ (by omega) (Or.inl (by omega))) DV.out
        have P1 := cellPut X3 XD (.deferred none)
        have P2 := cellPut X4 XD (.deferred none)
        refine ⟨by simp, .inl ⟨_, _, rfl, run_takeDeferred XD, ?_⟩⟩
        refine ⟨.tuple #[.int .u64 0, .int .i64 4], by simp [results, Try.results30, go_sem, P1, P2], ?_⟩
        exact ClP.bad XS XG N0.out XD (by have := DL.out; have := z5.out; have := ZE.out; omega) IZ.out
      · have e8 : V.cell? ⟨w.heap.size + 1 + 1 + 1, 0, none⟩ = some (.int .u64 0) := (C8.out.below dr.out).a0
        have f8 : ∀ i, V.frozen? ⟨w.heap.size + 1 + 1 + 1, i, none⟩ = false := (C8.out.below dr.out).fz
        go_simp
        go_wp2_with fail
        clear e8 f8
        refine hK.out _ _ ge.out.a0 (fun hX => ?_)
        clear hK K9 hHeld
        have hHeld := hX
        clear hX
        try simp only [Act.put, List.setIfInBounds_toArray, List.set_cons_zero, List.set_cons_succ]
        refine wpAnyH_ready (rs := [0]) (by kernel_rfl) (by simp) ?_
        refine cons2 rfl rfl (fun K9 hK => ?_)
        have q0 : (V.setCell ⟨w.heap.size + 1 + 1 + 1, 0, none⟩ (.int .u64 0)).cell? ⟨E + 1, 0, none⟩ = some (.int .i64 4) := ge.out.a0
        go_simp
        go_wp2_with fail
        clear q0
        refine hK.out _ _ ge.out.a0 (fun hX => ?_)
        clear hK K9 hHeld
        have hHeld := hX
        clear hX
        try simp only [Act.put, List.setIfInBounds_toArray, List.set_cons_zero, List.set_cons_succ]
        refine wpAnyH_ready (rs := [2]) (by kernel_rfl) (by simp) ?_
        refine cons2 rfl rfl (fun K9 hK => ?_)
        have e9 : (V.setCell ⟨w.heap.size + 1 + 1 + 1, 0, none⟩ (.int .u64 0)).cell? ⟨w.heap.size + 1 + 1 + 1 + 1, 0, none⟩ = some (.int .i64 0) := g9.out.a0
        have f9 : ∀ i, (V.setCell ⟨w.heap.size + 1 + 1 + 1, 0, none⟩ (.int .u64 0)).frozen? ⟨w.heap.size + 1 + 1 + 1 + 1, i, none⟩ = false := g9.out.fz
        go_simp
        go_wp2_with fail
        clear e9 f9
        refine hK.out _ _ ge2.out.a0 (fun hX => ?_)
        clear hK K9 hHeld hX
        try simp only [Act.put, List.setIfInBounds_toArray, List.set_cons_zero, List.set_cons_succ]
        refine wpAnyH_done (by kernel_rfl) ?_ _
        go_wp2
        obtain ⟨XS, XG, XD, X3, X4⟩ := fin2 (.int .u64 0) (.int .i64 4) rfl LT.out (C8.out.below dr.out) (C9.out.below dr.out) nt_u64z (nt_i64 _) (SS.out.below dr.out) (GG.out.next dr.out) (NB.out _ (by omega) (Or.inl (by omega))) (NB.out _ (by omega) (Or.inl (by omega))) DV.out
        have P1 := cellPut X3 XD (.deferred none)
        have P2 := cellPut X4 XD (.deferred none)
        refine ⟨by simp, .inl ⟨_, _, rfl, run_takeDeferred XD, ?_⟩⟩
        refine ⟨.tuple #[.int .u64 0, .int .i64 4], by simp [results, Try.results30, go_sem, P1, P2], ?_⟩
        exact ClP.bad XS XG N0.out XD (by have := DL.out; have := z5.out; have := ZE.out; omega) IZ.out
  case stop =>
    rintro D c pr U hD ⟨k, hk, rfl⟩ hX hK
    obtain ⟨rfl, b8, b9, gw, ⟨sl', vs', t, SS, n0, iz⟩, sz⟩ := hX
    refine wpIn_wide.2 ?_
    go_wp2
    have P1 := cellPut b8.a0 hK (.deferred none)
    have P2 := cellPut b9.a0 hK (.deferred none)
    refine ⟨by simp, .inl ⟨_, _, rfl, run_takeDeferred hK, ?_⟩⟩
    exact ⟨.tuple #[.int .u64 0, .int .i64 4], by simp [results, Try.results30, go_sem, P1, P2], ClP.bad SS gw n0 hK (by have := z5.out; have := ZE.out; omega) iz⟩

end Go.Proofs.Ythdjghmipepppaa

