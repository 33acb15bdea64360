/- The walks over package page: copied; slices.Clone of texts and of numbers. -/
import Derived.Test.YtfedcghkohfhlaaT3
import Derived.Deep.RegionHeld3
namespace Go.Proofs.Ytfedcghkohfhlaa
open Go.RowKit
set_option linter.unusedVariables false
set_option linter.unusedSimpArgs false

theorem eq_nilS (w : World) (a : Option Addr) (l c : Nat) : (binOp .eql 23 (.slice a l c) (.slice none 0 0)).run Try.prog w = .ok (.bool a.isNone) w := by
  have h : ∀ d : Nat, (Op.equalIn (d + 1) 23 (.slice a l c) (.slice none 0 0)).run Try.prog w = .ok a.isNone w := fun d => by
    cases a <;> simp [Op.equalIn, run_underlying Try.underlying23]
  simp only [binOp]
  simp [Op.equal, Op.maxDepth, h 9999]
theorem eq_nilU (w : World) (a : Option Addr) (l c : Nat) : (binOp .eql 24 (.slice a l c) (.slice none 0 0)).run Try.prog w = .ok (.bool a.isNone) w := by
  have h : ∀ d : Nat, (Op.equalIn (d + 1) 24 (.slice a l c) (.slice none 0 0)).run Try.prog w = .ok a.isNone w := fun d => by
    cases a <;> simp [Op.equalIn, run_underlying Try.underlying24]
  simp only [binOp]
  simp [Op.equal, Op.maxDepth, h 9999]

set_option maxHeartbeats 1000000 in
theorem cloneS_any (a : Option Addr) (n cap : Nat) (vs : List Value) (w : World) (h : Sl w a n cap vs) (hn : n ≤ 100000) :
    Calls Try.prog 49 #[.slice a n cap] w fun e w' => NewV 9 w w' e vs := by
  have H : Hid _ := h
  cases a with
  | none =>
    obtain ⟨rfl, rfl, rfl⟩ := h.none_nil
    clear h
    have E : (binOp .eql 23 (.slice none 0 0) (.slice none 0 0)).run Try.prog w = .ok (.bool true) w := eq_nilS w none 0 0
    go_enter Try.func49, Try.ntmps49
    go_wp2
    go_ret
    exact ⟨⟨_, rfl, Ow.nil w _ _⟩, Below.refl _ _⟩
  | some x =>
    clear h
    have E : (binOp .eql 23 (.slice (some x) n cap) (.slice none 0 0)).run Try.prog w = .ok (.bool false) w := eq_nilS w (some x) n cap
    go_enter Try.func49, Try.ntmps49
    go_wp2_with (at_builtin; refine wpList_append_sa 23 9 (.string ByteArray.empty) 16 Try.underlying23 strInfo rfl (by decide) rfl (.tmp 5) (.tmp 6) rfl w.heap.size _ [] rfl (ow_empty w 9) (some x) n cap vs rfl (H.out.below (allocB w _)) (by simp; omega) (by simp) ?_; intro v2 w2 o2 g2 _)
    go_ret
    rw [List.nil_append] at o2
    exact ⟨⟨v2, rfl, o2⟩, (allocB w _).grown g2 (by simp) (fun k hk => ((ow_empty w 9).lt k hk).1)⟩
set_option maxHeartbeats 1000000 in
theorem cloneU_any (a : Option Addr) (n cap : Nat) (vs : List Value) (w : World) (h : Sl w a n cap vs) (hn : n ≤ 100000) :
    Calls Try.prog 58 #[.slice a n cap] w fun e w' => NewV 31 w w' e vs := by
  have H : Hid _ := h
  cases a with
  | none =>
    obtain ⟨rfl, rfl, rfl⟩ := h.none_nil
    clear h
    have E : (binOp .eql 24 (.slice none 0 0) (.slice none 0 0)).run Try.prog w = .ok (.bool true) w := eq_nilU w none 0 0
    go_enter Try.func58, Try.ntmps58
    go_wp2
    go_ret
    exact ⟨⟨_, rfl, Ow.nil w _ _⟩, Below.refl _ _⟩
  | some x =>
    clear h
    have E : (binOp .eql 24 (.slice (some x) n cap) (.slice none 0 0)).run Try.prog w = .ok (.bool false) w := eq_nilU w (some x) n cap
    go_enter Try.func58, Try.ntmps58
    go_wp2_with (at_builtin; refine wpList_append_sa 24 31 (.int .u64 0) 8 Try.underlying24 u64Info rfl (by decide) rfl (.tmp 5) (.tmp 6) rfl w.heap.size _ [] rfl (ow_empty w 31) (some x) n cap vs rfl (H.out.below (allocB w _)) (by simp; omega) (by simp) ?_; intro v2 w2 o2 g2 _)
    go_ret
    rw [List.nil_append] at o2
    exact ⟨⟨v2, rfl, o2⟩, (allocB w _).grown g2 (by simp) (fun k hk => ((ow_empty w 31).lt k hk).1)⟩

/-- A box and a place for a result, while new memory is made. -/
structure Cp (w : World) (bb rr : Nat) (c0 c1 c2 c3 z0 z1 z2 z3 : Value) (W : World) : Prop where
  bel : Below w.heap.size w W
  box : B4 W bb c0 c1 c2 c3
  res : B4 W rr z0 z1 z2 z3
  fz : ∀ o, W.frozen? ⟨rr, o, none⟩ = false
theorem Cp.next {w : World} {bb rr : Nat} {c0 c1 c2 c3 z0 z1 z2 z3 : Value} {W W' : World} (h : Cp w bb rr c0 c1 c2 c3 z0 z1 z2 z3 W) (b : Below W.heap.size W W') : Cp w bb rr c0 c1 c2 c3 z0 z1 z2 z3 W' :=
  ⟨nextB h.bel b, h.box.below b, h.res.below b, fun o => by rw [World.frozen?_of_block (w := W) (a := ⟨rr, o, none⟩) (b.block rr h.res.lt)]; exact h.fz o⟩
theorem Cp.drew {w : World} {bb rr : Nat} {c0 c1 c2 c3 z0 z1 z2 z3 : Value} {W : World} (h : Cp w bb rr c0 c1 c2 c3 z0 z1 z2 z3 W) : Cp w bb rr c0 c1 c2 c3 z0 z1 z2 z3 W.drew := h.next (Below.refl _ _).drew

/-- A page no row of which lies in a block. -/
def Off (v : Value) (r : Nat) : Prop := ∀ l a1 m1 c1 a2 m2 c2 a3 m3 c3, v = .agg #[l, .slice a1 m1 c1, .slice a2 m2 c2, .slice a3 m3 c3] → (∀ x, 0 < m1 → a1 = some x → x.block ≠ r) ∧ (∀ x, 0 < m2 → a2 = some x → x.block ≠ r) ∧ (∀ x, 0 < m3 → a3 = some x → x.block ≠ r)
/-- A page is returned, its rows in new memory. -/
def NewQ (w w' : World) (e : Ending) (p : Pg) : Prop := ∃ v, e = .returned v ∧ Pv w' v p ∧ (∀ r, r < w.heap.size → Off v r) ∧ Below w.heap.size w w'
/-- Four cells laid over a place of one's own. -/
theorem stored4 {W : World} {r : Nat} {z0 z1 z2 z3 : Value} (h : B4 W r z0 z1 z2 z3) (v0 v1 v2 v3 : Value) : B4 ((((W.setCell ⟨r, 0, none⟩ v0).setCell ⟨r, 1, none⟩ v1).setCell ⟨r, 2, none⟩ v2).setCell ⟨r, 3, none⟩ v3) r v0 v1 v2 v3 ∧ W.grownBy ((((W.setCell ⟨r, 0, none⟩ v0).setCell ⟨r, 1, none⟩ v1).setCell ⟨r, 2, none⟩ v2).setCell ⟨r, 3, none⟩ v3) (some r) := by
  have ne : ∀ i j : Nat, i ≠ j → (⟨r, i, none⟩ : Addr) ≠ ⟨r, j, none⟩ := fun i j h k => by injection k with _ k; exact h k
  refine ⟨⟨?_, ?_, ?_, ?_⟩, grownBy_trans (grownBy_trans (grownBy_trans (grownBy_setCell W r 0 v0) (grownBy_setCell _ r 1 v1)) (grownBy_setCell _ r 2 v2)) (grownBy_setCell _ r 3 v3)⟩
  · rw [World.cell?_setCell_other _ _ _ _ (ne _ _ (by decide)), World.cell?_setCell_other _ _ _ _ (ne _ _ (by decide)), World.cell?_setCell_other _ _ _ _ (ne _ _ (by decide))]
    exact World.cell?_setCell_same _ _ _ h.a0
  · rw [World.cell?_setCell_other _ _ _ _ (ne _ _ (by decide)), World.cell?_setCell_other _ _ _ _ (ne _ _ (by decide))]
    exact World.cell?_setCell_same _ _ _ ((World.cell?_setCell_other _ _ _ _ (ne _ _ (by decide))).trans h.a1)
  · rw [World.cell?_setCell_other _ _ _ _ (ne _ _ (by decide))]
    exact World.cell?_setCell_same _ _ _ ((World.cell?_setCell_other _ _ _ _ (ne _ _ (by decide))).trans ((World.cell?_setCell_other _ _ _ _ (ne _ _ (by decide))).trans h.a2))
  · exact World.cell?_setCell_same _ _ _ ((World.cell?_setCell_other _ _ _ _ (ne _ _ (by decide))).trans ((World.cell?_setCell_other _ _ _ _ (ne _ _ (by decide))).trans ((World.cell?_setCell_other _ _ _ _ (ne _ _ (by decide))).trans h.a3)))

set_option maxRecDepth 100000 in
set_option maxHeartbeats 8000000 in
theorem copied_off (v : Value) (p : Pg) (w : World) (h : Pv w v p) (f : Bd p) :
    Calls Try.prog 35 #[v] w fun e w' => NewQ w w' e p := by
  obtain ⟨ka, kn, kc, va, vn, vc, ia, im, ic, rfl, h1, h2, h3⟩ := h.ex
  obtain ⟨lf, ks, vs, is⟩ := p
  simp only at h1 h2 h3
  have l1 := h1.slen
  have l2 := h2.slen
  have l3 := h3.klen
  have b1 := f.keys
  have b2 := f.vals
  have b3 := f.kids
  simp only at b1 b2 b3
  have KB : Hid _ := f.kid
  have HH : Hid _ := And.intro h1 (And.intro h2 h3)
  have LL : Hid _ := And.intro l1 (And.intro l2 l3)
  have n1 : kn ≤ 90000 := by omega
  have n2 : vn ≤ 90000 := by omega
  have n3 : im ≤ 90001 := by omega
  have C0 : Hid (∀ t t', Cp w w.heap.size (w.heap.size + 1) (.bool lf) (.slice ka kn kc) (.slice va vn vc) (.slice ia im ic) (.bool false) (.slice none 0 0) (.slice none 0 0) (.slice none 0 0) ((w.alloc (.cells #[.bool lf, .slice ka kn kc, .slice va vn vc, .slice ia im ic] t)).alloc (.cells #[.bool false, .slice none 0 0, .slice none 0 0, .slice none 0 0] t'))) := fun t t' => by
    refine ⟨nextB (allocB w _) (allocB _ _), (B4.new w _ _ _ _ t).below (allocB _ _), ?_, fun o => by simp⟩
    have q := B4.new (w.alloc (.cells #[.bool lf, .slice ka kn kc, .slice va vn vc, .slice ia im ic] t)) (.bool false) (.slice none 0 0) (.slice none 0 0) (.slice none 0 0) t'
    simpa using q
  clear h f h1 h2 h3 l1 l2 l3
  go_enter Try.func35, Try.ntmps35
  go_wp2_with fail
  have Q0 : Hid _ := (C0.out 26 26).drew
  generalize ((w.alloc (.cells #[.bool lf, .slice ka kn kc, .slice va vn vc, .slice ia im ic] 26)).alloc (.cells #[.bool false, .slice none 0 0, .slice none 0 0, .slice none 0 0] 26)) = W0 at *
  have S0 : W0.drew.cell? ⟨w.heap.size, 0, none⟩ = some (.bool lf) ∧ W0.drew.cell? ⟨w.heap.size, 1, none⟩ = some (.slice ka kn kc) ∧ W0.drew.cell? ⟨w.heap.size, 2, none⟩ = some (.slice va vn vc) ∧ W0.drew.cell? ⟨w.heap.size, 3, none⟩ = some (.slice ia im ic) := ⟨Q0.out.box.a0, Q0.out.box.a1, Q0.out.box.a2, Q0.out.box.a3⟩
  have K1 : Hid _ := cloneS_any ka kn kc (sv ks) W0.drew (HH.out.1.below Q0.out.bel) (by omega)
  have K2 : Hid _ := fun (W : World) (b : Below W0.drew.heap.size W0.drew W) => cloneS_any va vn vc (sv vs) W (HH.out.2.1.below (nextB Q0.out.bel b)) (by omega)
  have K3 : Hid _ := fun (W : World) (b : Below W0.drew.heap.size W0.drew W) => cloneU_any ia im ic (kv is) W (HH.out.2.2.below (nextB Q0.out.bel b)) (by omega)
  go_region_held3 (fun W => W.cell? ⟨w.heap.size, 0, none⟩ = some (.bool lf) ∧ W.cell? ⟨w.heap.size, 1, none⟩ = some (.slice ka kn kc) ∧ W.cell? ⟨w.heap.size, 2, none⟩ = some (.slice va vn vc) ∧ W.cell? ⟨w.heap.size, 3, none⟩ = some (.slice ia im ic)) (first | with_reducible assumption | go_keep) (first | (go_at_call 49; refine Calls.mono K1.out ?_; rintro e w5 ⟨⟨v5, rfl, o5⟩, b5⟩; obtain ⟨a5, c5, rfl, s5, z5, _⟩ := o5.sl; have Q5 : Hid _ := Q0.out.next b5; have S5 := And.intro Q5.out.box.a0 (And.intro Q5.out.box.a1 (And.intro Q5.out.box.a2 Q5.out.box.a3)); clear K1) | (go_at_call 49; refine Calls.mono (K2.out _ b5) ?_; rintro e w6 ⟨⟨v6, rfl, o6⟩, b6⟩; obtain ⟨a6, c6, rfl, s6, z6, _⟩ := o6.sl; have Q6 : Hid _ := Q5.out.next b6; have S6 := And.intro Q6.out.box.a0 (And.intro Q6.out.box.a1 (And.intro Q6.out.box.a2 Q6.out.box.a3))) | (go_at_call 58; refine Calls.mono (K3.out _ (nextB b5 b6)) ?_; rintro e w7 ⟨⟨v7, rfl, o7⟩, b7⟩; obtain ⟨a7, c7, rfl, s7, z7, _⟩ := o7.sl; have Q7 : Hid _ := Q6.out.next b7; have S7 := And.intro Q7.out.box.a0 (And.intro Q7.out.box.a1 (And.intro Q7.out.box.a2 Q7.out.box.a3)); have r0 := Q7.out.res.a0; have r1 := Q7.out.res.a1; have r2 := Q7.out.res.a2; have r3 := Q7.out.res.a3; have rz := Q7.out.fz))
  have X : Hid _ := stored4 Q7.out.res (.bool lf) (.slice a5 (sv ks).length c5) (.slice a6 (sv vs).length c6) (.slice a7 (kv is).length c7)
  have lr := Q0.out.res.lt
  have P : Hid (Pv ((((w7.setCell ⟨w.heap.size + 1, 0, none⟩ (.bool lf)).setCell ⟨w.heap.size + 1, 1, none⟩ (.slice a5 (sv ks).length c5)).setCell ⟨w.heap.size + 1, 2, none⟩ (.slice a6 (sv vs).length c6)).setCell ⟨w.heap.size + 1, 3, none⟩ (.slice a7 (kv is).length c7)) (.agg #[.bool lf, .slice a5 (sv ks).length c5, .slice a6 (sv vs).length c6, .slice a7 (kv is).length c7]) ⟨lf, ks, vs, is⟩) := by
    refine Pv.mk' (((s5.below b6).below b7).grown X.out.2 (fun _ x hx e => ?_)) ((s6.below b7).grown X.out.2 (fun _ x hx e => ?_)) (s7.grown X.out.2 (fun _ x hx e => ?_)) KB.out
    · have := (z5 x hx).1; injection e with e; omega
    · have := (z6 x hx).1; have := b5.size; injection e with e; omega
    · have := (z7 x hx).1; have := b5.size; have := b6.size; injection e with e; omega
  have OF : Hid (∀ r, r < w.heap.size → Off (.agg #[.bool lf, .slice a5 (sv ks).length c5, .slice a6 (sv vs).length c6, .slice a7 (kv is).length c7]) r) := fun r hr l A1 m1 C1 A2 m2 C2 A3 m3 C3 e => by
    simp only [Value.agg.injEq, Array.mk.injEq, List.cons.injEq, and_true, Value.slice.injEq] at e
    obtain ⟨_, ⟨rfl, rfl, rfl⟩, ⟨rfl, rfl, rfl⟩, rfl, rfl, rfl⟩ := e
    refine ⟨fun x _ hx => ?_, fun x _ hx => ?_, fun x _ hx => ?_⟩
    · have := (z5 x hx).1; omega
    · have := (z6 x hx).1; have := b5.size; omega
    · have := (z7 x hx).1; have := b5.size; have := b6.size; omega
  have B8 : Hid (Below w.heap.size w ((((w7.setCell ⟨w.heap.size + 1, 0, none⟩ (.bool lf)).setCell ⟨w.heap.size + 1, 1, none⟩ (.slice a5 (sv ks).length c5)).setCell ⟨w.heap.size + 1, 2, none⟩ (.slice a6 (sv vs).length c6)).setCell ⟨w.heap.size + 1, 3, none⟩ (.slice a7 (kv is).length c7))) := Q7.out.bel.grown X.out.2 Q7.out.bel.size (fun k hk => by injection hk with hk; omega)
  generalize ((((w7.setCell ⟨w.heap.size + 1, 0, none⟩ (.bool lf)).setCell ⟨w.heap.size + 1, 1, none⟩ (.slice a5 (sv ks).length c5)).setCell ⟨w.heap.size + 1, 2, none⟩ (.slice a6 (sv vs).length c6)).setCell ⟨w.heap.size + 1, 3, none⟩ (.slice a7 (kv is).length c7)) = W8 at *
  obtain ⟨⟨t0, t1, t2, t3⟩, _⟩ := X.out
  go_wp2
  exact bodyPost_ret (v := .agg #[.bool lf, .slice a5 (sv ks).length c5, .slice a6 (sv vs).length c6, .slice a7 (kv is).length c7]) (by simp [results, Try.results35, go_sem, t0, t1, t2, t3]) rfl ⟨_, rfl, P.out, OF.out, B8.out⟩

theorem copied_page (v : Value) (p : Pg) (w : World) (h : Pv w v p) (f : Bd p) : Calls Try.prog 35 #[v] w fun e w' => NewP w w' e p :=
  (copied_off v p w h f).mono fun e w' ⟨v', he, pv, _, b⟩ => ⟨⟨v', he, pv⟩, b⟩

end Go.Proofs.Ytfedcghkohfhlaa
