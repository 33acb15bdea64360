/- The walk over package page: Put. -/
import Derived.Test.YtfedcghkohfhlaaX2
namespace Go.Proofs.Ytfedcghkohfhlaa
open Go.RowKit
set_option linter.unusedVariables false
set_option linter.unusedSimpArgs false

theorem Cp.far {w : World} {bb rr : Nat} {c0 c1 c2 c3 z0 z1 z2 z3 : Value} {W W' : World} {r : Option Nat} (h : Cp w bb rr c0 c1 c2 c3 z0 z1 z2 z3 W) (g : W.grownBy W' r) (hr : ∀ k, r = some k → w.heap.size ≤ k ∧ k ≠ bb ∧ k ≠ rr) : Cp w bb rr c0 c1 c2 c3 z0 z1 z2 z3 W' := by
  have e1 : some bb ≠ r := fun e => (hr bb e.symm).2.1 rfl
  have e2 : some rr ≠ r := fun e => (hr rr e.symm).2.2 rfl
  exact ⟨h.bel.grown g h.bel.size (fun k hk => (hr k hk).1), h.box.grown g e1, h.res.grown g e2, fun o => by rw [World.frozen?_of_block (w := W) (a := ⟨rr, o, none⟩) (g.block rr h.res.lt e2)]; exact h.fz o⟩
/-- One of a row's own cells is turned. -/
theorem Ow.set {w : World} {base g n c i : Nat} {ss : List ByteArray} {x : ByteArray} (h : Ow w 9 base (.slice (some ⟨g, 0, none⟩) n c) (sv ss)) (hn : ss.length = n) (hi : i < n) : Sl (w.setCell ⟨g, i, none⟩ (.string x)) (some ⟨g, 0, none⟩) n c (sv (setAt ss i x)) := by
  obtain ⟨a, cap, e, s, _, _⟩ := h.sl
  injection e with e1 e2 e3
  subst e1 e3
  rw [sv_len, hn] at s
  refine ⟨by rw [sv_len, setAt_len (by omega)]; exact hn, s.fits, s.max, fun e => by simp at e, ⟨g, 0, fun _ => rfl, fun j u hj => ?_⟩, sv_one _⟩
  have jl := lt_of_some hj
  rw [sv_len, setAt_len (by omega)] at jl
  rw [Nat.zero_add]
  have base' := s.str (i := j) (by omega)
  rw [Nat.zero_add] at base'
  by_cases c : j = i
  · subst c
    rw [World.cell?_setCell_same _ _ _ base', ← hj]
    rw [sv_get (by rw [setAt_len (by omega)]; omega)]
    simp only [Option.some.injEq, Value.string.injEq]
    simp [setAt, List.getD, List.getElem?_append_right, List.length_take, Nat.min_eq_left (show j ≤ ss.length by omega)]
  · have ne : (⟨g, i, none⟩ : Addr) ≠ ⟨g, j, none⟩ := fun k => by injection k with _ k; exact c k.symm
    have e4 : (sv (setAt ss i x))[j]? = (sv ss)[j]? := by
      have ml : min i ss.length = i := by omega
      unfold setAt sv
      rw [List.map_append, List.map_cons, List.map_take, List.map_drop]
      rcases Nat.lt_or_ge j i with q | q
      · rw [List.getElem?_append_left (by simp; omega), List.getElem?_take_of_lt q]
      · rw [List.getElem?_append_right (by simp; omega)]
        simp only [List.length_take, List.length_map, ml]
        rw [show j - i = (j - i - 1) + 1 by omega, List.getElem?_cons_succ, List.getElem?_drop]
        congr 1
        omega
    rw [e4, sv_get (by omega)] at hj
    first | rw [World.cell?_setCell_other _ _ _ _ ne] | rw [World.cell?_setCell_other _ _ _ _ ne.symm]
    rw [base']
    exact hj

set_option maxRecDepth 100000 in
set_option maxHeartbeats 8000000 in
theorem Put_leaf (v : Value) (p : Pg) (key val : ByteArray) (w : World) (h : Pv w v p) (f : Fit p) (R : Rise p.keys) (hl : p.leaf = true) :
    Calls Try.prog 23 #[v, .string key, .string val] w fun e w' => NewP w w' e (putP p key val) := by
  obtain ⟨ka, kn, kc, va, vn, vc, ia, im, ic, rfl, h1, h2, h3⟩ := h.ex
  obtain ⟨lf, ks, vs, is⟩ := p
  simp only at h1 h2 h3 hl R
  subst hl
  have l1 := h1.slen
  have l2 := h2.slen
  have b1 := f.keys
  have ev := f.even rfl
  simp only at b1 ev
  have n1 : kn ≤ 2000 := by omega
  have HH : Hid _ := And.intro h1 (And.intro h2 h3)
  have H : Hid _ := h
  have F : Hid _ := f
  have RR : Hid _ := R
  have LL : Hid (ks.length = kn ∧ vs.length = kn) := by show _ ∧ _; omega
  have C0 : Hid (Cp w w.heap.size (w.heap.size + 1) (.bool true) (.slice ka kn kc) (.slice va vn vc) (.slice ia im ic) (.bool false) (.slice none 0 0) (.slice none 0 0) (.slice none 0 0) ((w.alloc (.cells #[.bool true, .slice ka kn kc, .slice va vn vc, .slice ia im ic] 26)).alloc (.cells #[.bool false, (.slice none 0 0), (.slice none 0 0), (.slice none 0 0)] 26))) := by
    refine ⟨nextB (allocB w _) (allocB _ _), (B4.new w _ _ _ _ _).below (allocB _ _), ?_, fun o => by simp⟩
    have q := B4.new (w.alloc (.cells #[.bool true, .slice ka kn kc, .slice va vn vc, .slice ia im ic] 26)) (.bool false) (.slice none 0 0) (.slice none 0 0) (.slice none 0 0) 26
    rw [World.size_alloc] at q
    exact q
  have PP : Hid (fnd ks key = true → posS ks key < kn) := fun e => by have := (fnd_true e).1; omega
  have PQ : Hid (posS ks key ≤ kn) := by have := pos_le ks key; show _ ≤ _; omega
  have PY : Hid (fnd ks key = true → putP ⟨true, ks, vs, is⟩ key val = ⟨true, ks, setAt vs (posS ks key) val, []⟩) := fun e => putP_yes e
  have PN : Hid (fnd ks key = false → putP ⟨true, ks, vs, is⟩ key val = ⟨true, insAt ks (posS ks key) key, insAt vs (posS ks key) val, []⟩) := fun e => putP_no e
  clear h f h1 h2 h3 l1 l2 ev R b1
  go_enter Try.func23, Try.ntmps23
  go_upto_region 3 with fail
  generalize ((w.alloc (.cells #[.bool true, .slice ka kn kc, .slice va vn vc, .slice ia im ic] 26)).alloc (.cells #[.bool false, (.slice none 0 0), (.slice none 0 0), (.slice none 0 0)] 26)) = W0 at *
  have S0 : W0.drew.cell? ⟨w.heap.size, 0, none⟩ = some (.bool true) ∧ W0.drew.cell? ⟨w.heap.size, 1, none⟩ = some (.slice ka kn kc) ∧ W0.drew.cell? ⟨w.heap.size, 2, none⟩ = some (.slice va vn vc) ∧ W0.drew.cell? ⟨w.heap.size, 3, none⟩ = some (.slice ia im ic) := ⟨C0.out.box.a0, C0.out.box.a1, C0.out.box.a2, C0.out.box.a3⟩
  have Q0 : Hid _ := C0.out.drew
  have K1 : Hid _ := cloneS_any ka kn kc (sv ks) W0.drew (HH.out.1.below Q0.out.bel) (by omega)
  have K2 : Hid _ := fun (W : World) (b : Below w.heap.size w W) => values_any _ ⟨true, ks, vs, is⟩ W (H.out.below b) F.out rfl
  go_region_held3 (fun W => W.cell? ⟨w.heap.size, 0, none⟩ = some (.bool true) ∧ W.cell? ⟨w.heap.size, 1, none⟩ = some (.slice ka kn kc) ∧ W.cell? ⟨w.heap.size, 2, none⟩ = some (.slice va vn vc) ∧ W.cell? ⟨w.heap.size, 3, none⟩ = some (.slice ia im ic)) (first | with_reducible assumption | (go_keep; done)) (first | (go_at_call 49; refine Calls.mono K1.out ?_; rintro e w5 ⟨⟨v5, rfl, o5⟩, b5⟩; have Q5 : Hid _ := Q0.out.next b5; have S5 := And.intro Q5.out.box.a0 (And.intro Q5.out.box.a1 (And.intro Q5.out.box.a2 Q5.out.box.a3)); clear K1) | (go_at_call 40; refine Calls.mono (K2.out _ Q5.out.bel) ?_; rintro e w6 ⟨⟨v6, rfl, o6⟩, b6⟩; have Q6 : Hid _ := Q5.out.next b6; have S6 := And.intro Q6.out.box.a0 (And.intro Q6.out.box.a1 (And.intro Q6.out.box.a2 Q6.out.box.a3))))
  have O5 : Hid _ := And.intro o5 b5
  have O6 : Hid _ := And.intro o6 b6
  obtain ⟨x0, x1, x2, x3⟩ := S6
  have KF : Hid _ := Find_leaf _ ⟨true, ks, vs, is⟩ key w6 (H.out.below Q6.out.bel) F.out.bd RR.out rfl
  have LR := Q0.out.res.lt
  clear S0 S5 o5 b5 o6 b6 K2
  simp only at KF
  cases fd : fnd ks key with
  | true =>
    have Pp := PP.out fd
    have EQ : Hid _ := PY.out fd
    rw [fd] at KF
    obtain ⟨g6, c6, rfl⟩ : ∃ g c, v6 = .slice (some ⟨g, 0, none⟩) kn c := by
      obtain ⟨a, c, e, s, _, hh⟩ := O6.out.1.sl
      have q := LL.out
      rw [sv_len, q.2] at e s
      rcases hh with r | ⟨g, r⟩
      · rw [r] at s; have := s.none_nil; omega
      · exact ⟨g, c, by rw [e, r]⟩
    have FD : Hid _ := fd
    clear fd PP PY PN
    generalize posS ks key = P at *
    have Pi : (P : Int) < (kn : Int) := by omega
    go_upto_region 6 with (go_at_call 24; refine Calls.mono KF.out ?_; rintro e w7 ⟨rfl, b7⟩)
    have O7 : Hid _ := O6.out.1.below b7
    have e7 : w7.cell? ⟨g6, P, none⟩ = some (.string (kAt vs P)) := by
      obtain ⟨a, c, e, s, _, _⟩ := O7.out.sl
      injection e with e1 e2 e3
      rw [← e1] at s
      have q := LL.out
      rw [sv_len, q.2] at s
      have := s.str (i := P) (by omega)
      rwa [Nat.zero_add] at this
    have f7 : w7.frozen? ⟨g6, P, none⟩ = false := by
      rcases O7.out.row.2 with ⟨e, _⟩ | ⟨g, cap, cur, e, hb, hg, _⟩
      · cases e
      · injection e with e1 e2 e3
        injection e1 with e1
        injection e1 with e1
        subst e1
        exact frozen_of_row _ _ _ _ _ hg
    have G6 := (O6.out.1.lt g6 rfl).1
    have B5 := O5.out.2.size
    have B6 := O6.out.2.size
    have L5 : Hid _ := O5.out.1.lt
    have W8g : Hid (w7.grownBy (w7.setCell ⟨g6, P, none⟩ (.string val)) (some g6)) := grownBy_setCell _ _ _ _
    have Q8 : Hid _ := (Q6.out.next b7).far W8g.out (fun k hk => by have e := Option.some.inj hk; subst e; exact ⟨by omega, by omega, by omega⟩)
    have SV : Hid _ := O7.out.set (x := val) LL.out.2 (i := P) Pp
    obtain ⟨a5, c5, rfl, s5, z5, _⟩ := O5.out.1.sl
    have SK : Hid (Sl (w7.setCell ⟨g6, P, none⟩ (.string val)) a5 (sv ks).length c5 (sv ks)) := ((s5.below O6.out.2).below b7).grown W8g.out (fun _ x hx e => by have := (z5 x hx).2; have := Option.some.inj e; omega)
    have r0 := Q8.out.res.a0
    have r1 := Q8.out.res.a1
    have r2 := Q8.out.res.a2
    have r3 := Q8.out.res.a3
    have rz := Q8.out.fz
    go_upto_region 8 with fail
    generalize w7.setCell ⟨g6, P, none⟩ (.string val) = w8 at *
    go_wp2
    rw [EQ.out]
    have X : Hid _ := stored4 Q8.out.res (.bool true) (.slice a5 (sv ks).length c5) (.slice (some ⟨g6, 0, none⟩) kn c6) (.slice none 0 0)
    have P : Hid (Pv ((((w8.setCell ⟨w.heap.size + 1, 0, none⟩ (.bool true)).setCell ⟨w.heap.size + 1, 1, none⟩ (.slice a5 (sv ks).length c5)).setCell ⟨w.heap.size + 1, 2, none⟩ (.slice (some ⟨g6, 0, none⟩) kn c6)).setCell ⟨w.heap.size + 1, 3, none⟩ (.slice none 0 0)) (.agg #[.bool true, .slice a5 (sv ks).length c5, .slice (some ⟨g6, 0, none⟩) kn c6, .slice none 0 0]) ⟨true, ks, setAt vs P val, []⟩) := by
      refine Pv.mk' (SK.out.grown X.out.2 (fun _ x hx e => ?_)) (SV.out.grown X.out.2 (fun _ x hx e => ?_)) (Sl.empty _) (fun k hk => by simp at hk)
      · have := (z5 x hx).1; injection e with e; omega
      · injection hx with hx; subst hx; injection e with e; simp only at e; omega
    have B8 : Hid (Below w.heap.size w ((((w8.setCell ⟨w.heap.size + 1, 0, none⟩ (.bool true)).setCell ⟨w.heap.size + 1, 1, none⟩ (.slice a5 (sv ks).length c5)).setCell ⟨w.heap.size + 1, 2, none⟩ (.slice (some ⟨g6, 0, none⟩) kn c6)).setCell ⟨w.heap.size + 1, 3, none⟩ (.slice none 0 0))) := Q8.out.bel.grown X.out.2 Q8.out.bel.size (fun k hk => by injection hk with hk; omega)
    generalize ((((w8.setCell ⟨w.heap.size + 1, 0, none⟩ (.bool true)).setCell ⟨w.heap.size + 1, 1, none⟩ (.slice a5 (sv ks).length c5)).setCell ⟨w.heap.size + 1, 2, none⟩ (.slice (some ⟨g6, 0, none⟩) kn c6)).setCell ⟨w.heap.size + 1, 3, none⟩ (.slice none 0 0)) = W8 at *
    obtain ⟨⟨t0, t1, t2, t3⟩, _⟩ := X.out
    exact bodyPost_ret (v := .agg #[.bool true, .slice a5 (sv ks).length c5, .slice (some ⟨g6, 0, none⟩) kn c6, .slice none 0 0]) (by simp [results, Try.results23, go_sem, t0, t1, t2, t3]) rfl ⟨⟨_, rfl, P.out⟩, B8.out⟩
  | false =>
    have EQ : Hid _ := PN.out fd
    rw [fd] at KF
    have FD : Hid _ := fd
    clear fd PP PY PN
    generalize posS ks key = P at *
    go_upto_region 7 with (go_at_call 24; refine Calls.mono KF.out ?_; rintro e w7 ⟨rfl, b7⟩)
    have G5 : Hid _ := O5.out.1.lt
    have G6 : Hid _ := O6.out.1.lt
    have B5 := O5.out.2.size
    have B6 := O6.out.2.size
    have B7 := b7.size
    have OK : Hid _ := ((O5.out.1.below O6.out.2).below b7).below (allocB w7 (.cells #[.string key] 9))
    have OV : Hid _ := (O6.out.1.below b7).below (allocB w7 (.cells #[.string key] 9))
    have Q7 : Hid _ := (Q6.out.next b7).next (allocB w7 (.cells #[.string key] 9))
    have KI : Hid _ := Insert_any v5 ks P key _ _ OK.out (by have := LL.out; have := PQ.out; omega) (by have := LL.out; omega) w7.heap.size (heap_alloc_new w7 _) (fun e => by have := (G5.out _ e).2; omega)
    go_wp2_with fail
    refine Calls.mono KI.out ?_
    rintro e w8 ⟨⟨a8, c8, rfl, s8, z8⟩, g8⟩
    have Q8 : Hid _ := Q7.out.far g8 (fun k hk => by have := (G5.out k hk).1; exact ⟨by omega, by omega, by omega⟩)
    have OV8 : Hid _ := (OV.out.grown g8 (fun k hk e => by have := (G6.out k hk).1; have := (G5.out k e.symm).2; omega)).below (allocB w8 (.cells #[.string val] 9))
    have Z8 := g8.size
    simp only [World.size_alloc] at Z8
    have KI2 : Hid _ := Insert_any v6 vs P val _ _ OV8.out (by have := LL.out; have := PQ.out; omega) (by have := LL.out; omega) w8.heap.size (heap_alloc_new w8 _) (fun e => by have := (G6.out _ e).2; omega)
    have S8 : Hid _ := s8.below (allocB w8 (.cells #[.string val] 9))
    have Y8 : Hid (∀ x, a8 = some x → (∃ k, v5.ownBlock = some k ∧ x.block = k) ∨ x.block = w7.heap.size + 1) := fun x hx => by
      rcases z8 x hx with q | q
      · exact Or.inl ⟨_, q.symm, rfl⟩
      · rw [World.size_alloc] at q; exact Or.inr q
    have Q9 : Hid _ := Q8.out.next (allocB w8 (.cells #[.string val] 9))
    clear KI KF s8 z8 g8
    go_wp2_with fail
    refine Calls.mono KI2.out ?_
    rintro e w9 ⟨⟨a9, c9, rfl, s9, z9⟩, g9⟩
    have Q10 : Hid _ := Q9.out.far g9 (fun k hk => by have := (G6.out k hk).1; exact ⟨by omega, by omega, by omega⟩)
    have S9 : Hid _ := s9
    have K9 : Hid _ := S8.out.grown g9 (fun _ x hx e => by
      have q := G6.out _ e.symm
      rcases Y8.out x hx with ⟨k, hk, r⟩ | r
      · have := (G5.out k hk).2; omega
      · omega)
    have Y9 : Hid (∀ x, a9 = some x → (∃ k, v6.ownBlock = some k ∧ x.block = k) ∨ w7.heap.size ≤ x.block) := fun x hx => by
      rcases z9 x hx with q | q
      · exact Or.inl ⟨_, q.symm, rfl⟩
      · rw [World.size_alloc] at q; exact Or.inr (by omega)
    clear s9 z9 g9
    generalize ks.length + 1 = n8 at *
    generalize vs.length + 1 = n9 at *
    have r0 := Q10.out.res.a0
    have r1 := Q10.out.res.a1
    have r2 := Q10.out.res.a2
    have r3 := Q10.out.res.a3
    have rz := Q10.out.fz
    go_wp2
    rw [EQ.out]
    have X : Hid _ := stored4 Q10.out.res (.bool true) (.slice a8 n8 c8) (.slice a9 n9 c9) (.slice none 0 0)
    have P : Hid (Pv ((((w9.setCell ⟨w.heap.size + 1, 0, none⟩ (.bool true)).setCell ⟨w.heap.size + 1, 1, none⟩ (.slice a8 n8 c8)).setCell ⟨w.heap.size + 1, 2, none⟩ (.slice a9 n9 c9)).setCell ⟨w.heap.size + 1, 3, none⟩ (.slice none 0 0)) (.agg #[.bool true, .slice a8 n8 c8, .slice a9 n9 c9, .slice none 0 0]) ⟨true, insAt ks P key, insAt vs P val, []⟩) := by
      refine Pv.mk' (K9.out.grown X.out.2 (fun _ x hx e => ?_)) (S9.out.grown X.out.2 (fun _ x hx e => ?_)) (Sl.empty _) (fun k hk => by simp at hk)
      · injection e with e
        rcases Y8.out x hx with ⟨k, hk, r⟩ | r
        · have := (G5.out k hk).1; omega
        · omega
      · injection e with e
        rcases Y9.out x hx with ⟨k, hk, r⟩ | r
        · have := (G6.out k hk).1; omega
        · omega
    have B8 : Hid (Below w.heap.size w ((((w9.setCell ⟨w.heap.size + 1, 0, none⟩ (.bool true)).setCell ⟨w.heap.size + 1, 1, none⟩ (.slice a8 n8 c8)).setCell ⟨w.heap.size + 1, 2, none⟩ (.slice a9 n9 c9)).setCell ⟨w.heap.size + 1, 3, none⟩ (.slice none 0 0))) := Q10.out.bel.grown X.out.2 Q10.out.bel.size (fun k hk => by injection hk with hk; omega)
    generalize ((((w9.setCell ⟨w.heap.size + 1, 0, none⟩ (.bool true)).setCell ⟨w.heap.size + 1, 1, none⟩ (.slice a8 n8 c8)).setCell ⟨w.heap.size + 1, 2, none⟩ (.slice a9 n9 c9)).setCell ⟨w.heap.size + 1, 3, none⟩ (.slice none 0 0)) = W8 at *
    obtain ⟨⟨t0, t1, t2, t3⟩, _⟩ := X.out
    exact bodyPost_ret (v := .agg #[.bool true, .slice a8 n8 c8, .slice a9 n9 c9, .slice none 0 0]) (by simp [results, Try.results23, go_sem, t0, t1, t2, t3]) rfl ⟨⟨_, rfl, P.out⟩, B8.out⟩

end Go.Proofs.Ytfedcghkohfhlaa
