/- The walks over package page: copied; slices.Clone of texts and of numbers. append to a slice that is empty and has no room. Slices cut, as run equations: the walk parts no more on whether the capacity ends there. The walk over the law's own: a page as the document's. What stands in memory while a page is read. -/
import Derived.Test.YthdjghmipepppaaMc
import Derived.Deep.RegionHeld3
import Derived.ArgAppend
import Derived.Test.YthdjghmipepppaaMb
namespace Go.Proofs.Ythdjghmipepppaa
open Go.RowKit
set_option linter.unusedVariables false
set_option linter.unusedSimpArgs false

theorem eq_nilS (w : World) (a : Option Addr) (l c : Nat) : (binOp .eql 52 (.slice a l c) (.slice none 0 0)).run Try.prog w = .ok (.bool a.isNone) w := by
  have h : ∀ d : Nat, (Op.equalIn (d + 1) 52 (.slice a l c) (.slice none 0 0)).run Try.prog w = .ok a.isNone w := fun d => by
    cases a <;> simp [Op.equalIn, run_underlying Try.underlying52]
  simp only [binOp]
  simp [Op.equal, Op.maxDepth, h 9999]
theorem eq_nilU (w : World) (a : Option Addr) (l c : Nat) : (binOp .eql 39 (.slice a l c) (.slice none 0 0)).run Try.prog w = .ok (.bool a.isNone) w := by
  have h : ∀ d : Nat, (Op.equalIn (d + 1) 39 (.slice a l c) (.slice none 0 0)).run Try.prog w = .ok a.isNone w := fun d => by
    cases a <;> simp [Op.equalIn, run_underlying Try.underlying39]
  simp only [binOp]
  simp [Op.equal, Op.maxDepth, h 9999]

set_option maxHeartbeats 1000000 in
theorem cloneS_any (a : Option Addr) (n cap : Nat) (vs : List Value) (w : World) (h : Sl w a n cap vs) (hn : n ≤ 100000) :
    Calls Try.prog 63 #[.slice a n cap] w fun e w' => NewV 9 w w' e vs := by
  have H : Hid _ := h
  cases a with
  | none =>
    obtain ⟨rfl, rfl, rfl⟩ := h.none_nil
    clear h
    have E : (binOp .eql 52 (.slice none 0 0) (.slice none 0 0)).run Try.prog w = .ok (.bool true) w := eq_nilS w none 0 0
    go_enter Try.func63, Try.ntmps63
    go_wp2
    go_ret
    exact ⟨⟨_, rfl, Ow.nil w _ _⟩, Below.refl _ _⟩
  | some x =>
    clear h
    have E : (binOp .eql 52 (.slice (some x) n cap) (.slice none 0 0)).run Try.prog w = .ok (.bool false) w := eq_nilS w (some x) n cap
    go_enter Try.func63, Try.ntmps63
    go_wp2_with (at_builtin; refine wpList_append_sa 52 9 (.string ByteArray.empty) 16 Try.underlying52 strInfo rfl (by decide) rfl (.tmp 5) (.tmp 6) rfl w.heap.size _ [] rfl (ow_empty w 9) (some x) n cap vs rfl (H.out.below (allocB w _)) (by simp; omega) (by simp) ?_; intro v2 w2 o2 g2 _)
    go_ret
    rw [List.nil_append] at o2
    exact ⟨⟨v2, rfl, o2⟩, (allocB w _).grown g2 (by simp) (fun k hk => ((ow_empty w 9).lt k hk).1)⟩
set_option maxHeartbeats 1000000 in
theorem cloneU_any (a : Option Addr) (n cap : Nat) (vs : List Value) (w : World) (h : Sl w a n cap vs) (hn : n ≤ 100000) :
    Calls Try.prog 82 #[.slice a n cap] w fun e w' => NewV 27 w w' e vs := by
  have H : Hid _ := h
  cases a with
  | none =>
    obtain ⟨rfl, rfl, rfl⟩ := h.none_nil
    clear h
    have E : (binOp .eql 39 (.slice none 0 0) (.slice none 0 0)).run Try.prog w = .ok (.bool true) w := eq_nilU w none 0 0
    go_enter Try.func82, Try.ntmps82
    go_wp2
    go_ret
    exact ⟨⟨_, rfl, Ow.nil w _ _⟩, Below.refl _ _⟩
  | some x =>
    clear h
    have E : (binOp .eql 39 (.slice (some x) n cap) (.slice none 0 0)).run Try.prog w = .ok (.bool false) w := eq_nilU w (some x) n cap
    go_enter Try.func82, Try.ntmps82
    go_wp2_with (at_builtin; refine wpList_append_sa 39 27 (.int .u64 0) 8 Try.underlying39 u64Info rfl (by decide) rfl (.tmp 5) (.tmp 6) rfl w.heap.size _ [] rfl (ow_empty w 27) (some x) n cap vs rfl (H.out.below (allocB w _)) (by simp; omega) (by simp) ?_; intro v2 w2 o2 g2 _)
    go_ret
    rw [List.nil_append] at o2
    exact ⟨⟨v2, rfl, o2⟩, (allocB w _).grown g2 (by simp) (fun k hk => ((ow_empty w 27).lt k hk).1)⟩

/-- A box and a place for a result, while new memory is made. -/
structure Cp (w : World) (bb rr : Nat) (c0 c1 c2 c3 z0 z1 z2 z3 : Value) (W : World) : Prop where
  bel : Below w.heap.size w W
  box : B4 W bb c0 c1 c2 c3
  res : B4 W rr z0 z1 z2 z3
  fz : ∀ o, W.frozen? ⟨rr, o, none⟩ = false
theorem Cp.next {w : World} {bb rr : Nat} {c0 c1 c2 c3 z0 z1 z2 z3 : Value} {W W' : World} (h : Cp w bb rr c0 c1 c2 c3 z0 z1 z2 z3 W) (b : Below W.heap.size W W') : Cp w bb rr c0 c1 c2 c3 z0 z1 z2 z3 W' :=
  ⟨nextB h.bel b, h.box.below b, h.res.below b, fun o => by rw [World.frozen?_of_block (w := W) (a := ⟨rr, o, none⟩) (b.block rr h.res.lt)]; exact h.fz o⟩
theorem Cp.drew {w : World} {bb rr : Nat} {c0 c1 c2 c3 z0 z1 z2 z3 : Value} {W : World} (h : Cp w bb rr c0 c1 c2 c3 z0 z1 z2 z3 W) : Cp w bb rr c0 c1 c2 c3 z0 z1 z2 z3 W.drew := h.next (Below.refl _ _).drew

/-- A page no row of which lies in a block. -/
def Off (v : Value) (r : Nat) : Prop := ∀ l a1 m1 c1 a2 m2 c2 a3 m3 c3, v = .agg #[l, .slice a1 m1 c1, .slice a2 m2 c2, .slice a3 m3 c3] → (∀ x, 0 < m1 → a1 = some x → x.block ≠ r) ∧ (∀ x, 0 < m2 → a2 = some x → x.block ≠ r) ∧ (∀ x, 0 < m3 → a3 = some x → x.block ≠ r)
/-- A page is returned, its rows in new memory. -/
def NewQ (w w' : World) (e : Ending) (p : Pg) : Prop := ∃ v, e = .returned v ∧ Pv w' v p ∧ (∀ r, r < w.heap.size → Off v r) ∧ Below w.heap.size w w'
/-- Four cells laid over a place of one's own. -/
theorem stored4 {W : World} {r : Nat} {z0 z1 z2 z3 : Value} (h : B4 W r z0 z1 z2 z3) (v0 v1 v2 v3 : Value) : B4 ((((W.setCell ⟨r, 0, none⟩ v0).setCell ⟨r, 1, none⟩ v1).setCell ⟨r, 2, none⟩ v2).setCell ⟨r, 3, none⟩ v3) r v0 v1 v2 v3 ∧ W.grownBy ((((W.setCell ⟨r, 0, none⟩ v0).setCell ⟨r, 1, none⟩ v1).setCell ⟨r, 2, none⟩ v2).setCell ⟨r, 3, none⟩ v3) (some r) := by
  have ne : ∀ i j : Nat, i ≠ j → (⟨r, i, none⟩ : Addr) ≠ ⟨r, j, none⟩ := fun i j h k => by injection k with _ k; exact h k
  refine ⟨⟨?_, ?_, ?_, ?_⟩, grownBy_trans (grownBy_trans (grownBy_trans (grownBy_setCell W r 0 v0) (grownBy_setCell _ r 1 v1)) (grownBy_setCell _ r 2 v2)) (grownBy_setCell _ r 3 v3)⟩
  · rw [World.cell?_setCell_other _ _ _ _ (ne _ _ (by decide)), World.cell?_setCell_other _ _ _ _ (ne _ _ (by decide)), World.cell?_setCell_other _ _ _ _ (ne _ _ (by decide))]
    exact World.cell?_setCell_same _ _ _ h.a0
  · rw [World.cell?_setCell_other _ _ _ _ (ne _ _ (by decide)), World.cell?_setCell_other _ _ _ _ (ne _ _ (by decide))]
    exact World.cell?_setCell_same _ _ _ ((World.cell?_setCell_other _ _ _ _ (ne _ _ (by decide))).trans h.a1)
  · rw [World.cell?_setCell_other _ _ _ _ (ne _ _ (by decide))]
    exact World.cell?_setCell_same _ _ _ ((World.cell?_setCell_other _ _ _ _ (ne _ _ (by decide))).trans ((World.cell?_setCell_other _ _ _ _ (ne _ _ (by decide))).trans h.a2))
  · exact World.cell?_setCell_same _ _ _ ((World.cell?_setCell_other _ _ _ _ (ne _ _ (by decide))).trans ((World.cell?_setCell_other _ _ _ _ (ne _ _ (by decide))).trans ((World.cell?_setCell_other _ _ _ _ (ne _ _ (by decide))).trans h.a3)))

set_option maxRecDepth 100000 in
set_option maxHeartbeats 8000000 in
theorem copied_off (v : Value) (p : Pg) (w : World) (h : Pv w v p) (f : Bd p) :
    Calls Try.prog 62 #[v] w fun e w' => NewQ w w' e p := by
  obtain ⟨ka, kn, kc, va, vn, vc, ia, im, ic, rfl, h1, h2, h3⟩ := h.ex
  obtain ⟨lf, ks, vs, is⟩ := p
  simp only at h1 h2 h3
  have l1 := h1.slen
  have l2 := h2.slen
  have l3 := h3.klen
  have b1 := f.keys
  have b2 := f.vals
  have b3 := f.kids
  simp only at b1 b2 b3
  have KB : Hid _ := f.kid
  have HH : Hid _ := And.intro h1 (And.intro h2 h3)
  have LL : Hid _ := And.intro l1 (And.intro l2 l3)
  have n1 : kn ≤ 90000 := by omega
  have n2 : vn ≤ 90000 := by omega
  have n3 : im ≤ 90001 := by omega
  have C0 : Hid (∀ t t', Cp w w.heap.size (w.heap.size + 1) (.bool lf) (.slice ka kn kc) (.slice va vn vc) (.slice ia im ic) (.bool false) (.slice none 0 0) (.slice none 0 0) (.slice none 0 0) ((w.alloc (.cells #[.bool lf, .slice ka kn kc, .slice va vn vc, .slice ia im ic] t)).alloc (.cells #[.bool false, .slice none 0 0, .slice none 0 0, .slice none 0 0] t'))) := fun t t' => by
    refine ⟨nextB (allocB w _) (allocB _ _), (B4.new w _ _ _ _ t).below (allocB _ _), ?_, fun o => by simp⟩
    have q := B4.new (w.alloc (.cells #[.bool lf, .slice ka kn kc, .slice va vn vc, .slice ia im ic] t)) (.bool false) (.slice none 0 0) (.slice none 0 0) (.slice none 0 0) t'
    simpa using q
  clear h f h1 h2 h3 l1 l2 l3
  go_enter Try.func62, Try.ntmps62
  go_wp2_with fail
  have Q0 : Hid _ := (C0.out 54 54).drew
  generalize ((w.alloc (.cells #[.bool lf, .slice ka kn kc, .slice va vn vc, .slice ia im ic] 54)).alloc (.cells #[.bool false, .slice none 0 0, .slice none 0 0, .slice none 0 0] 54)) = W0 at *
  have S0 : W0.drew.cell? ⟨w.heap.size, 0, none⟩ = some (.bool lf) ∧ W0.drew.cell? ⟨w.heap.size, 1, none⟩ = some (.slice ka kn kc) ∧ W0.drew.cell? ⟨w.heap.size, 2, none⟩ = some (.slice va vn vc) ∧ W0.drew.cell? ⟨w.heap.size, 3, none⟩ = some (.slice ia im ic) := ⟨Q0.out.box.a0, Q0.out.box.a1, Q0.out.box.a2, Q0.out.box.a3⟩
  have K1 : Hid _ := cloneS_any ka kn kc (sv ks) W0.drew (HH.out.1.below Q0.out.bel) (by omega)
  have K2 : Hid _ := fun (W : World) (b : Below W0.drew.heap.size W0.drew W) => cloneS_any va vn vc (sv vs) W (HH.out.2.1.below (nextB Q0.out.bel b)) (by omega)
  have K3 : Hid _ := fun (W : World) (b : Below W0.drew.heap.size W0.drew W) => cloneU_any ia im ic (kv is) W (HH.out.2.2.below (nextB Q0.out.bel b)) (by omega)
  go_region_held3 (fun W => W.cell? ⟨w.heap.size, 0, none⟩ = some (.bool lf) ∧ W.cell? ⟨w.heap.size, 1, none⟩ = some (.slice ka kn kc) ∧ W.cell? ⟨w.heap.size, 2, none⟩ = some (.slice va vn vc) ∧ W.cell? ⟨w.heap.size, 3, none⟩ = some (.slice ia im ic)) (first | with_reducible assumption | go_keep) (first | (go_at_call 63; refine Calls.mono K1.out ?_; rintro e w5 ⟨⟨v5, rfl, o5⟩, b5⟩; obtain ⟨a5, c5, rfl, s5, z5, _⟩ := o5.sl; have Q5 : Hid _ := Q0.out.next b5; have S5 := And.intro Q5.out.box.a0 (And.intro Q5.out.box.a1 (And.intro Q5.out.box.a2 Q5.out.box.a3)); clear K1) | (go_at_call 63; refine Calls.mono (K2.out _ b5) ?_; rintro e w6 ⟨⟨v6, rfl, o6⟩, b6⟩; obtain ⟨a6, c6, rfl, s6, z6, _⟩ := o6.sl; have Q6 : Hid _ := Q5.out.next b6; have S6 := And.intro Q6.out.box.a0 (And.intro Q6.out.box.a1 (And.intro Q6.out.box.a2 Q6.out.box.a3))) | (go_at_call 82; refine Calls.mono (K3.out _ (nextB b5 b6)) ?_; rintro e w7 ⟨⟨v7, rfl, o7⟩, b7⟩; obtain ⟨a7, c7, rfl, s7, z7, _⟩ := o7.sl; have Q7 : Hid _ := Q6.out.next b7; have S7 := And.intro Q7.out.box.a0 (And.intro Q7.out.box.a1 (And.intro Q7.out.box.a2 Q7.out.box.a3)); have r0 := Q7.out.res.a0; have r1 := Q7.out.res.a1; have r2 := Q7.out.res.a2; have r3 := Q7.out.res.a3; have rz := Q7.out.fz))
  have X : Hid _ := stored4 Q7.out.res (.bool lf) (.slice a5 (sv ks).length c5) (.slice a6 (sv vs).length c6) (.slice a7 (kv is).length c7)
  have lr := Q0.out.res.lt
  have P : Hid (Pv ((((w7.setCell ⟨w.heap.size + 1, 0, none⟩ (.bool lf)).setCell ⟨w.heap.size + 1, 1, none⟩ (.slice a5 (sv ks).length c5)).setCell ⟨w.heap.size + 1, 2, none⟩ (.slice a6 (sv vs).length c6)).setCell ⟨w.heap.size + 1, 3, none⟩ (.slice a7 (kv is).length c7)) (.agg #[.bool lf, .slice a5 (sv ks).length c5, .slice a6 (sv vs).length c6, .slice a7 (kv is).length c7]) ⟨lf, ks, vs, is⟩) := by
    refine Pv.mk' (((s5.below b6).below b7).grown X.out.2 (fun _ x hx e => ?_)) ((s6.below b7).grown X.out.2 (fun _ x hx e => ?_)) (s7.grown X.out.2 (fun _ x hx e => ?_)) KB.out
    · have := (z5 x hx).1; injection e with e; omega
    · have := (z6 x hx).1; have := b5.size; injection e with e; omega
    · have := (z7 x hx).1; have := b5.size; have := b6.size; injection e with e; omega
  have OF : Hid (∀ r, r < w.heap.size → Off (.agg #[.bool lf, .slice a5 (sv ks).length c5, .slice a6 (sv vs).length c6, .slice a7 (kv is).length c7]) r) := fun r hr l A1 m1 C1 A2 m2 C2 A3 m3 C3 e => by
    simp only [Value.agg.injEq, Array.mk.injEq, List.cons.injEq, and_true, Value.slice.injEq] at e
    obtain ⟨_, ⟨rfl, rfl, rfl⟩, ⟨rfl, rfl, rfl⟩, rfl, rfl, rfl⟩ := e
    refine ⟨fun x _ hx => ?_, fun x _ hx => ?_, fun x _ hx => ?_⟩
    · have := (z5 x hx).1; omega
    · have := (z6 x hx).1; have := b5.size; omega
    · have := (z7 x hx).1; have := b5.size; have := b6.size; omega
  have B8 : Hid (Below w.heap.size w ((((w7.setCell ⟨w.heap.size + 1, 0, none⟩ (.bool lf)).setCell ⟨w.heap.size + 1, 1, none⟩ (.slice a5 (sv ks).length c5)).setCell ⟨w.heap.size + 1, 2, none⟩ (.slice a6 (sv vs).length c6)).setCell ⟨w.heap.size + 1, 3, none⟩ (.slice a7 (kv is).length c7))) := Q7.out.bel.grown X.out.2 Q7.out.bel.size (fun k hk => by injection hk with hk; omega)
  generalize ((((w7.setCell ⟨w.heap.size + 1, 0, none⟩ (.bool lf)).setCell ⟨w.heap.size + 1, 1, none⟩ (.slice a5 (sv ks).length c5)).setCell ⟨w.heap.size + 1, 2, none⟩ (.slice a6 (sv vs).length c6)).setCell ⟨w.heap.size + 1, 3, none⟩ (.slice a7 (kv is).length c7)) = W8 at *
  obtain ⟨⟨t0, t1, t2, t3⟩, _⟩ := X.out
  go_wp2
  exact bodyPost_ret (v := .agg #[.bool lf, .slice a5 (sv ks).length c5, .slice a6 (sv vs).length c6, .slice a7 (kv is).length c7]) (by simp [results, Try.results62, go_sem, t0, t1, t2, t3]) rfl ⟨_, rfl, P.out, OF.out, B8.out⟩

theorem copied_page (v : Value) (p : Pg) (w : World) (h : Pv w v p) (f : Bd p) : Calls Try.prog 62 #[v] w fun e w' => NewP w w' e p :=
  (copied_off v p w h f).mono fun e w' ⟨v', he, pv, _, b⟩ => ⟨⟨v', he, pv⟩, b⟩

end Go.Proofs.Ythdjghmipepppaa

namespace Go.Proofs.Ythdjghmipepppaa
open Go.RowKit
set_option linter.unusedVariables false
set_option linter.unusedSimpArgs false

theorem run_append_fresh {w : World} (S T : TypeId) (z : Value) (by0 : Nat) (hu : Try.prog.underlying S = some (.slice T)) (hinf : (Try.prog.info? T).map (fun i => (i.zero, i.size, i.bytes)) = some (some z, 1, by0)) (hz : z.cells.size = 1) (hby : by0 ≤ 16) (ty : TypeId)
    (g : Nat) (ad : Option Addr) (m c : Nat) (vs : List Value) (hb : Sl w ad m c vs) (hm : m ≤ 1000000) :
    ∃ a' c' w', (Builtin.append_ #[S, S] ty #[.slice (some ⟨g, 0, none⟩) 0 0, .slice ad m c]).run Try.prog w = .ok (.slice a' m c') w' ∧ Sl w' a' m c' vs ∧ (∀ x, a' = some x → 0 < m → w.heap.size ≤ x.block) ∧ Below w.heap.size w w' := by
  obtain ⟨i0, hi, hz0, hz1, hz2⟩ := info_parts hinf
  have nil : ∀ x : Addr, vs = [] → Sl w (some x) 0 0 vs := fun x e => by
    subst e
    exact ⟨rfl, Nat.le_refl _, Nat.zero_le _, fun e => rfl, ⟨0, 0, fun p => absurd p (Nat.lt_irrefl 0), fun i u hi => by simp at hi⟩, fun u hu => by simp at hu⟩
  cases ad with
  | none =>
    obtain ⟨rfl, rfl, rfl⟩ := hb.none_nil
    refine ⟨some ⟨g, 0, none⟩, 0, w, ?_, nil _ rfl, fun x _ p => absurd p (Nat.lt_irrefl 0), Below.refl _ _⟩
    simp [Builtin.append_, run_underlying hu, sizeOf, typeInfo, hi, Builtin.lenOf, Builtin.firstCells, storeCells]
  | some x =>
    rcases Nat.eq_zero_or_pos m with rfl | mp
    · have e : vs = [] := List.length_eq_zero_iff.1 hb.len
      refine ⟨some ⟨g, 0, none⟩, 0, w, ?_, nil _ e, fun x _ p => absurd p (Nat.lt_irrefl 0), Below.refl _ _⟩
      have := run_append_room_cells (P := Try.prog) w S ty T i0 hu hi g 0 0 0 x 0 c [] (by simp) (fun j u hj => by simp at hj) (fun u hu => by simp at hu) (Nat.le_refl _) (fun j hj => by simp at hj) (fun j hj => by simp at hj)
      exact this
    · obtain ⟨v', w', hr, h2, h3⟩ := run_append_arg_grows (P := Try.prog) w S ty T i0 z 1 by0 hu hi hz0 hz1 hz2 hz (by decide) ⟨g, 0, none⟩ 0 0 [] rfl (fun j u hj => by simp at hj) x m c vs (by simp [hb.len]) hb.news (by omega) (by unfold maxLen; omega) (by
        have : (0 + m) * by0 ≤ 1000000 * 16 := Nat.mul_le_mul (by omega) hby
        omega)
      rw [List.nil_append, Nat.zero_add] at h2
      have ow : Ow w' T w.heap.size v' vs := ⟨by rw [hb.len]; exact h2, hb.one⟩
      obtain ⟨a', c', rfl, s, zz, _⟩ := ow.sl
      rw [hb.len] at hr s
      exact ⟨a', c', w', hr, s, fun x hx _ => (zz x hx).1, (Below.refl _ _).grown h3 (Nat.le_refl _) (fun k hk => by cases hk)⟩
theorem step_append_fresh {w : World} {ops : Array Oper} {o : Oper} {a : Act} {K : Act → World → Prop} {Q : Exit → Act → World → Prop} {E : Prop} (S T : TypeId) (z : Value) (by0 : Nat) (hu : Try.prog.underlying S = some (.slice T)) (hinf : (Try.prog.info? T).map (fun i => (i.zero, i.size, i.bytes)) = some (some z, 1, by0)) (hz : z.cells.size = 1) (hby : by0 ≤ 16)
    (hgd : o.guard = none) (s x : Operand) (ho : o.op = .call { callee := .builtin .append, args := #[s, x], argTypes := #[S, S] })
    (g : Nat) (hs : a.eval s = .slice (some ⟨g, 0, none⟩) 0 0) (ad : Option Addr) (m c : Nat) (vs : List Value) (hx : a.eval x = .slice ad m c) (hb : Sl w ad m c vs) (hm : m ≤ 1000000)
    (h : ∀ a' c' w', Sl w' a' m c' vs → (∀ x, a' = some x → 0 < m → w.heap.size ≤ x.block) → Below w.heap.size w w' → K (a.put o.dst (.slice a' m c')) w') : if Region.wanted o (yielded ops a.tmps) = true then Oper.wp Try.prog o a w K Q else E := by
  have hw : Region.wanted o (yielded ops a.tmps) = true := by simp [Region.wanted, hgd]
  rw [if_pos hw]
  obtain ⟨a', c', w', hr, h2, h3, h4⟩ := run_append_fresh S T z by0 hu hinf hz hby o.type g ad m c vs hb hm
  unfold Oper.wp execOp
  simp only [ho, resolve, invoke, builtin, Sem.run_bind, Sem.run_pure, Result.andThen_ok, List.map_toArray, List.map_cons, List.map_nil, hs, hx, hr]
  exact h a' c' w' h2 h3 h4

end Go.Proofs.Ythdjghmipepppaa

namespace Go.Proofs.Ythdjghmipepppaa
open Go.RowKit
set_option linter.unusedVariables false
set_option linter.unusedSimpArgs false

theorem size_one {T : TypeId} {z : Value} {by0 : Nat} (hinf : (Try.prog.info? T).map (fun i => (i.zero, i.size, i.bytes)) = some (some z, 1, by0)) (w : World) : (sizeOf T).run Try.prog w = .ok 1 w := by
  obtain ⟨i0, hi, hz0, hz1, hz2⟩ := info_parts hinf
  simp [sizeOf, typeInfo, hi, hz1]
theorem elem_is {S T : TypeId} (hu : Try.prog.underlying S = some (.slice T)) : Try.prog.elem S = T := by
  simp [Program.elem, hu]
/-- 'x[k:]'. -/
theorem cut_from {S T : TypeId} {z : Value} {by0 : Nat} (hu : Try.prog.underlying S = some (.slice T)) (hinf : (Try.prog.info? T).map (fun i => (i.zero, i.size, i.bytes)) = some (some z, 1, by0)) (b o n cap k : Nat) (i : Int) (hi : i = (k : Nat)) (hk : k ≤ n) (hf : n ≤ cap) :
    ∃ O : Nat, (∀ w, (Instr.slice S (.slice (some ⟨b, o, none⟩) n cap) (some (.int .i64 i)) none none).run Try.prog w = .ok (.slice (some ⟨b, O, none⟩) (n - k) (cap - k)) w) ∧ (k < n → O = o + k) := by
  subst hi
  have he := elem_is hu
  have hu' : Try.prog.underlying S = some (.slice (Try.prog.elem S)) := by rw [he]; exact hu
  by_cases c : cap = k
  · refine ⟨o, fun w => ?_, fun q => by omega⟩
    rw [run_slice_l w S _ n cap hu' .i64 (k : Nat) (by omega) (by omega), he, size_one hinf w]
    simp [Result.andThen, sliced, c]
  · refine ⟨o + k, fun w => ?_, fun q => rfl⟩
    rw [run_slice_l w S _ n cap hu' .i64 (k : Nat) (by omega) (by omega), he, size_one hinf w]
    have hp : (⟨b, o, none⟩ : Addr).add k = ⟨b, o + k, none⟩ := Addr.add_mid b o k
    simp [Result.andThen, sliced, c, hp]
/-- 'x[:k]'. -/
theorem cut_upto {S T : TypeId} {z : Value} {by0 : Nat} (hu : Try.prog.underlying S = some (.slice T)) (hinf : (Try.prog.info? T).map (fun i => (i.zero, i.size, i.bytes)) = some (some z, 1, by0)) (b o n cap k : Nat) (i : Int) (hi : i = (k : Nat)) (hk : k ≤ cap) :
    ∀ w, (Instr.slice S (.slice (some ⟨b, o, none⟩) n cap) none (some (.int .i64 i)) none).run Try.prog w = .ok (.slice (some ⟨b, o, none⟩) k cap) w := by
  subst hi
  have he := elem_is hu
  have hu' : Try.prog.underlying S = some (.slice (Try.prog.elem S)) := by rw [he]; exact hu
  intro w
  rw [run_slice_h w S _ n cap hu' .i64 (k : Nat) (by omega) (by omega), he, size_one hinf w]
  have hp : (⟨b, o, none⟩ : Addr).add 0 = ⟨b, o + 0, none⟩ := Addr.add_mid b o 0
  by_cases c : cap = 0
  · simp [Result.andThen, sliced, c]
  · simp [Result.andThen, sliced, c, hp]

end Go.Proofs.Ythdjghmipepppaa

namespace Go.Proofs.Ythdjghmipepppaa
open Go.RowKit
set_option linter.unusedVariables false
set_option linter.unusedSimpArgs false

theorem s4_of {W : World} {b : Nat} {c0 c1 c2 c3 : Value} (h : B4 W b c0 c1 c2 c3) : W.cell? ⟨b, 0, none⟩ = some c0 ∧ W.cell? ⟨b, 1, none⟩ = some c1 ∧ W.cell? ⟨b, 2, none⟩ = some c2 ∧ W.cell? ⟨b, 3, none⟩ = some c3 := ⟨h.a0, h.a1, h.a2, h.a3⟩
end Go.Proofs.Ythdjghmipepppaa

namespace Go.Proofs.Ythdjghmipepppaa
open Go.RowKit
set_option linter.unusedVariables false
set_option linter.unusedSimpArgs false

theorem frozen_kept {w w' : World} {b : Nat} (h : ∀ o, w.frozen? ⟨b, o, none⟩ = false) (e : w'.heap[b]? = w.heap[b]?) : ∀ o, w'.frozen? ⟨b, o, none⟩ = false :=
  fun o => (World.frozen?_of_block (w := w) (a := ⟨b, o, none⟩) e).trans (h o)
theorem Ow.kept {w w' : World} {T : TypeId} {base : Nat} {v : Value} {vs : List Value} (h : Ow w T base v vs) (hk : ∀ g, v.ownBlock = some g → w'.heap[g]? = w.heap[g]?) : Ow w' T base v vs := by
  refine ⟨⟨h.row.1, ?_⟩, h.one⟩
  rcases h.row.2 with hn | ⟨g, cap, cur, rfl, hbb, hgg, rest⟩
  · exact .inl hn
  · exact .inr ⟨g, cap, cur, rfl, hbb, by rw [hk g rfl]; exact hgg, rest⟩

theorem set_heap {w : World} {b o c : Nat} {v : Value} (h : c ≠ b) : (w.setCell ⟨b, o, none⟩ v).heap[c]? = w.heap[c]? :=
  Below.heap_setCell w ⟨b, o, none⟩ v c h
theorem B4.set1 {w : World} {b : Nat} {c0 c1 c2 c3 v : Value} (h : B4 w b c0 c1 c2 c3) : B4 (w.setCell ⟨b, 1, none⟩ v) b c0 v c2 c3 := by
  have ne : ∀ i j : Nat, i ≠ j → (⟨b, i, none⟩ : Addr) ≠ ⟨b, j, none⟩ := fun i j h k => by injection k with _ k; exact h k
  exact ⟨(World.cell?_setCell_other _ _ _ _ (ne _ _ (by decide))).trans h.a0, World.cell?_setCell_same _ _ _ h.a1, (World.cell?_setCell_other _ _ _ _ (ne _ _ (by decide))).trans h.a2, (World.cell?_setCell_other _ _ _ _ (ne _ _ (by decide))).trans h.a3⟩
theorem B4.set2 {w : World} {b : Nat} {c0 c1 c2 c3 v : Value} (h : B4 w b c0 c1 c2 c3) : B4 (w.setCell ⟨b, 2, none⟩ v) b c0 c1 v c3 := by
  have ne : ∀ i j : Nat, i ≠ j → (⟨b, i, none⟩ : Addr) ≠ ⟨b, j, none⟩ := fun i j h k => by injection k with _ k; exact h k
  exact ⟨(World.cell?_setCell_other _ _ _ _ (ne _ _ (by decide))).trans h.a0, (World.cell?_setCell_other _ _ _ _ (ne _ _ (by decide))).trans h.a1, World.cell?_setCell_same _ _ _ h.a2, (World.cell?_setCell_other _ _ _ _ (ne _ _ (by decide))).trans h.a3⟩
theorem B4.set3 {w : World} {b : Nat} {c0 c1 c2 c3 v : Value} (h : B4 w b c0 c1 c2 c3) : B4 (w.setCell ⟨b, 3, none⟩ v) b c0 c1 c2 v := by
  have ne : ∀ i j : Nat, i ≠ j → (⟨b, i, none⟩ : Addr) ≠ ⟨b, j, none⟩ := fun i j h k => by injection k with _ k; exact h k
  exact ⟨(World.cell?_setCell_other _ _ _ _ (ne _ _ (by decide))).trans h.a0, (World.cell?_setCell_other _ _ _ _ (ne _ _ (by decide))).trans h.a1, (World.cell?_setCell_other _ _ _ _ (ne _ _ (by decide))).trans h.a2, World.cell?_setCell_same _ _ _ h.a3⟩
end Go.Proofs.Ythdjghmipepppaa

