/- The walks over package page: Put of a branch, Drop. -/
import Derived.Test.YtfedcghkohfhlaaX3
namespace Go.Proofs.Ytfedcghkohfhlaa
open Go.RowKit
set_option linter.unusedVariables false
set_option linter.unusedSimpArgs false

theorem Pv.out {w w' : World} {v : Value} {p : Pg} {r : Nat} (h : Pv w v p) (g : w.grownBy w' (some r)) (o : Off v r) : Pv w' v p := by
  obtain ⟨ka, kn, kc, va, vn, vc, ia, im, ic, e, h1, h2, h3⟩ := h.ex
  obtain ⟨o1, o2, o3⟩ := o _ _ _ _ _ _ _ _ _ _ e
  exact ⟨⟨ka, kn, kc, va, vn, vc, ia, im, ic, e, h1.grown g (fun q x hx k => o1 x q hx (Option.some.inj k)), h2.grown g (fun q x hx k => o2 x q hx (Option.some.inj k)), h3.grown g (fun q x hx k => o3 x q hx (Option.some.inj k))⟩, h.kid⟩
/-- What is there twice, in two worlds, one behind the other: its rows lie nowhere that is new between. -/
theorem Pv.off {w : World} {v : Value} {p : Pg} (h : Pv w v p) (r : Nat) (hr : w.heap.size ≤ r) : Off v r := by
  obtain ⟨ka, kn, kc, va, vn, vc, ia, im, ic, e, h1, h2, h3⟩ := h.ex
  intro l a1 m1 c1 a2 m2 c2 a3 m3 c3 e'
  rw [e] at e'
  simp only [Value.agg.injEq, Array.mk.injEq, List.cons.injEq, and_true, Value.slice.injEq] at e'
  obtain ⟨_, ⟨rfl, rfl, rfl⟩, ⟨rfl, rfl, rfl⟩, rfl, rfl, rfl⟩ := e'
  exact ⟨fun x q hx => by have := h1.old q x hx; omega, fun x q hx => by have := h2.old q x hx; omega, fun x q hx => by have := h3.old q x hx; omega⟩

set_option maxRecDepth 100000 in
set_option maxHeartbeats 8000000 in
theorem Put_branch (v : Value) (p : Pg) (key val : ByteArray) (w : World) (h : Pv w v p) (f : Bd p) (hl : p.leaf = false) :
    Calls Try.prog 23 #[v, .string key, .string val] w fun e w' => NewP w w' e p := by
  obtain ⟨ka, kn, kc, va, vn, vc, ia, im, ic, rfl, h1, h2, h3⟩ := h.ex
  obtain ⟨lf, ks, vs, is⟩ := p
  simp only at h1 h2 h3 hl
  subst hl
  have H : Hid _ := h
  have F : Hid _ := f
  have C0 : Hid (Cp w w.heap.size (w.heap.size + 1) (.bool false) (.slice ka kn kc) (.slice va vn vc) (.slice ia im ic) (.bool false) (.slice none 0 0) (.slice none 0 0) (.slice none 0 0) ((w.alloc (.cells #[.bool false, .slice ka kn kc, .slice va vn vc, .slice ia im ic] 26)).alloc (.cells #[.bool false, (.slice none 0 0), (.slice none 0 0), (.slice none 0 0)] 26))) := by
    refine ⟨nextB (allocB w _) (allocB _ _), (B4.new w _ _ _ _ _).below (allocB _ _), ?_, fun o => by simp⟩
    have q := B4.new (w.alloc (.cells #[.bool false, .slice ka kn kc, .slice va vn vc, .slice ia im ic] 26)) (.bool false) (.slice none 0 0) (.slice none 0 0) (.slice none 0 0) 26
    rw [World.size_alloc] at q
    exact q
  have KC : Hid _ := fun (W : World) (b : Below w.heap.size w W) => copied_off _ ⟨false, ks, vs, is⟩ W (H.out.below b) F.out
  clear h f h1 h2 h3
  go_enter Try.func23, Try.ntmps23
  go_upto_region 2 with fail
  generalize ((w.alloc (.cells #[.bool false, .slice ka kn kc, .slice va vn vc, .slice ia im ic] 26)).alloc (.cells #[.bool false, (.slice none 0 0), (.slice none 0 0), (.slice none 0 0)] 26)) = W0 at *
  have x0 := C0.out.box.a0
  have x1 := C0.out.box.a1
  have x2 := C0.out.box.a2
  have x3 := C0.out.box.a3
  have LR := C0.out.res.lt
  go_wp2_with fail
  refine Calls.mono (KC.out W0 C0.out.bel) ?_
  rintro e w5 ⟨v5, rfl, pv, of, b5⟩
  obtain ⟨a1, m1, c1, a2, m2, c2, a3, m3, c3, rfl, _, _, _⟩ := pv.ex
  have PV : Hid _ := pv
  have Q5 : Hid _ := C0.out.next b5
  have NB : Hid _ := of (w.heap.size + 1) LR
  clear pv of
  have r0 := Q5.out.res.a0
  have r1 := Q5.out.res.a1
  have r2 := Q5.out.res.a2
  have r3 := Q5.out.res.a3
  have rz := Q5.out.fz
  try simp only at PV
  go_wp2
  have X : Hid _ := stored4 Q5.out.res (.bool false) (.slice a1 m1 c1) (.slice a2 m2 c2) (.slice a3 m3 c3)
  have P : Hid (Pv ((((w5.setCell ⟨w.heap.size + 1, 0, none⟩ (.bool false)).setCell ⟨w.heap.size + 1, 1, none⟩ (.slice a1 m1 c1)).setCell ⟨w.heap.size + 1, 2, none⟩ (.slice a2 m2 c2)).setCell ⟨w.heap.size + 1, 3, none⟩ (.slice a3 m3 c3)) (.agg #[.bool false, .slice a1 m1 c1, .slice a2 m2 c2, .slice a3 m3 c3]) ⟨false, ks, vs, is⟩) := PV.out.out X.out.2 NB.out
  have B8 : Hid (Below w.heap.size w ((((w5.setCell ⟨w.heap.size + 1, 0, none⟩ (.bool false)).setCell ⟨w.heap.size + 1, 1, none⟩ (.slice a1 m1 c1)).setCell ⟨w.heap.size + 1, 2, none⟩ (.slice a2 m2 c2)).setCell ⟨w.heap.size + 1, 3, none⟩ (.slice a3 m3 c3))) := Q5.out.bel.grown X.out.2 Q5.out.bel.size (fun k hk => by injection hk with hk; omega)
  generalize ((((w5.setCell ⟨w.heap.size + 1, 0, none⟩ (.bool false)).setCell ⟨w.heap.size + 1, 1, none⟩ (.slice a1 m1 c1)).setCell ⟨w.heap.size + 1, 2, none⟩ (.slice a2 m2 c2)).setCell ⟨w.heap.size + 1, 3, none⟩ (.slice a3 m3 c3)) = W8 at *
  obtain ⟨⟨t0, t1, t2, t3⟩, _⟩ := X.out
  exact bodyPost_ret (v := .agg #[.bool false, .slice a1 m1 c1, .slice a2 m2 c2, .slice a3 m3 c3]) (by simp [results, Try.results23, go_sem, t0, t1, t2, t3]) rfl ⟨⟨_, rfl, P.out⟩, B8.out⟩

set_option maxRecDepth 100000 in
set_option maxHeartbeats 8000000 in
theorem Drop_none (v : Value) (p : Pg) (key : ByteArray) (w : World) (h : Pv w v p) (f : Bd p) (KF : ∀ W, Below w.heap.size w W → Calls Try.prog 24 #[v, .string key] W fun e w' => (∃ k : Nat, e = .returned (.tuple #[.int .i64 (k : Nat), .bool false])) ∧ Below W.heap.size W w') :
    Calls Try.prog 26 #[v, .string key] w fun e w' => NewP w w' e p := by
  obtain ⟨ka, kn, kc, va, vn, vc, ia, im, ic, rfl, h1, h2, h3⟩ := h.ex
  obtain ⟨lf, ks, vs, is⟩ := p
  simp only at h1 h2 h3 h KF
  have H : Hid _ := h
  have F : Hid _ := f
  have KFH : Hid _ := KF
  have C0 : Hid (Cp w w.heap.size (w.heap.size + 1) (.bool lf) (.slice ka kn kc) (.slice va vn vc) (.slice ia im ic) (.bool false) (.slice none 0 0) (.slice none 0 0) (.slice none 0 0) ((w.alloc (.cells #[.bool lf, .slice ka kn kc, .slice va vn vc, .slice ia im ic] 26)).alloc (.cells #[.bool false, (.slice none 0 0), (.slice none 0 0), (.slice none 0 0)] 26))) := by
    refine ⟨nextB (allocB w _) (allocB _ _), (B4.new w _ _ _ _ _).below (allocB _ _), ?_, fun o => by simp⟩
    have q := B4.new (w.alloc (.cells #[.bool lf, .slice ka kn kc, .slice va vn vc, .slice ia im ic] 26)) (.bool false) (.slice none 0 0) (.slice none 0 0) (.slice none 0 0) 26
    rw [World.size_alloc] at q
    exact q
  have KC : Hid _ := fun (W : World) (b : Below w.heap.size w W) => copied_off _ ⟨lf, ks, vs, is⟩ W (H.out.below b) F.out
  try simp only at KC
  clear h f h1 h2 h3 KF
  go_enter Try.func26, Try.ntmps26
  go_upto_region 1 with fail
  generalize ((w.alloc (.cells #[.bool lf, .slice ka kn kc, .slice va vn vc, .slice ia im ic] 26)).alloc (.cells #[.bool false, (.slice none 0 0), (.slice none 0 0), (.slice none 0 0)] 26)) = W0 at *
  have x0 := C0.out.box.a0
  have x1 := C0.out.box.a1
  have x2 := C0.out.box.a2
  have x3 := C0.out.box.a3
  have LR := C0.out.res.lt
  go_wp2_with fail
  refine Calls.mono (KFH.out W0 C0.out.bel) ?_
  rintro e w4 ⟨⟨kk, rfl⟩, b4⟩
  have Q4 : Hid _ := C0.out.next b4
  have y0 := Q4.out.box.a0
  have y1 := Q4.out.box.a1
  have y2 := Q4.out.box.a2
  have y3 := Q4.out.box.a3
  have LR4 := Q4.out.res.lt
  go_wp2_with fail
  refine Calls.mono (KC.out w4 Q4.out.bel) ?_
  rintro e w5 ⟨v5, rfl, pv, of, b5⟩
  obtain ⟨a1, m1, c1, a2, m2, c2, a3, m3, c3, rfl, _, _, _⟩ := pv.ex
  have PV : Hid _ := pv
  have Q5 : Hid _ := Q4.out.next b5
  have NB : Hid _ := of (w.heap.size + 1) LR4
  clear pv of
  have r0 := Q5.out.res.a0
  have r1 := Q5.out.res.a1
  have r2 := Q5.out.res.a2
  have r3 := Q5.out.res.a3
  have rz := Q5.out.fz
  try simp only at PV
  go_wp2
  have X : Hid _ := stored4 Q5.out.res (.bool lf) (.slice a1 m1 c1) (.slice a2 m2 c2) (.slice a3 m3 c3)
  have P : Hid (Pv ((((w5.setCell ⟨w.heap.size + 1, 0, none⟩ (.bool lf)).setCell ⟨w.heap.size + 1, 1, none⟩ (.slice a1 m1 c1)).setCell ⟨w.heap.size + 1, 2, none⟩ (.slice a2 m2 c2)).setCell ⟨w.heap.size + 1, 3, none⟩ (.slice a3 m3 c3)) (.agg #[.bool lf, .slice a1 m1 c1, .slice a2 m2 c2, .slice a3 m3 c3]) ⟨lf, ks, vs, is⟩) := PV.out.out X.out.2 NB.out
  have B8 : Hid (Below w.heap.size w ((((w5.setCell ⟨w.heap.size + 1, 0, none⟩ (.bool lf)).setCell ⟨w.heap.size + 1, 1, none⟩ (.slice a1 m1 c1)).setCell ⟨w.heap.size + 1, 2, none⟩ (.slice a2 m2 c2)).setCell ⟨w.heap.size + 1, 3, none⟩ (.slice a3 m3 c3))) := Q5.out.bel.grown X.out.2 Q5.out.bel.size (fun k hk => by injection hk with hk; omega)
  generalize ((((w5.setCell ⟨w.heap.size + 1, 0, none⟩ (.bool lf)).setCell ⟨w.heap.size + 1, 1, none⟩ (.slice a1 m1 c1)).setCell ⟨w.heap.size + 1, 2, none⟩ (.slice a2 m2 c2)).setCell ⟨w.heap.size + 1, 3, none⟩ (.slice a3 m3 c3)) = W8 at *
  obtain ⟨⟨t0, t1, t2, t3⟩, _⟩ := X.out
  exact bodyPost_ret (v := .agg #[.bool lf, .slice a1 m1 c1, .slice a2 m2 c2, .slice a3 m3 c3]) (by simp [results, Try.results26, go_sem, t0, t1, t2, t3]) rfl ⟨⟨_, rfl, P.out⟩, B8.out⟩

set_option maxRecDepth 100000 in
set_option maxHeartbeats 8000000 in
theorem Drop_yes (v : Value) (p : Pg) (key : ByteArray) (w : World) (h : Pv w v p) (f : Fit p) (R : Rise p.keys) (hl : p.leaf = true) (fd : fnd p.keys key = true) :
    Calls Try.prog 26 #[v, .string key] w fun e w' => NewP w w' e (dropP p key) := by
  rw [dropP_yes fd]
  obtain ⟨ka, kn, kc, va, vn, vc, ia, im, ic, rfl, h1, h2, h3⟩ := h.ex
  obtain ⟨lf, ks, vs, is⟩ := p
  simp only at h1 h2 h3 hl R fd
  subst hl
  have l1 := h1.slen
  have l2 := h2.slen
  have b1 := f.keys
  have ev := f.even rfl
  simp only at b1 ev
  have n1 : kn ≤ 2000 := by omega
  have HH : Hid _ := And.intro h1 (And.intro h2 h3)
  have H : Hid _ := h
  have F : Hid _ := f
  have RR : Hid _ := R
  have LL : Hid (ks.length = kn ∧ vs.length = kn) := by show _ ∧ _; omega
  have C0 : Hid (Cp w w.heap.size (w.heap.size + 1) (.bool true) (.slice ka kn kc) (.slice va vn vc) (.slice ia im ic) (.bool false) (.slice none 0 0) (.slice none 0 0) (.slice none 0 0) ((w.alloc (.cells #[.bool true, .slice ka kn kc, .slice va vn vc, .slice ia im ic] 26)).alloc (.cells #[.bool false, (.slice none 0 0), (.slice none 0 0), (.slice none 0 0)] 26))) := by
    refine ⟨nextB (allocB w _) (allocB _ _), (B4.new w _ _ _ _ _).below (allocB _ _), ?_, fun o => by simp⟩
    have q := B4.new (w.alloc (.cells #[.bool true, .slice ka kn kc, .slice va vn vc, .slice ia im ic] 26)) (.bool false) (.slice none 0 0) (.slice none 0 0) (.slice none 0 0) 26
    rw [World.size_alloc] at q
    exact q
  have Pp : posS ks key < kn := by have := (fnd_true fd).1; omega
  have KF : Hid _ := fun (W : World) (b : Below w.heap.size w W) => Find_leaf _ ⟨true, ks, vs, is⟩ key W (H.out.below b) F.out.bd RR.out rfl
  simp only at KF
  rw [fd] at KF
  have K1 : Hid _ := fun (W : World) (b : Below w.heap.size w W) => cloneS_any ka kn kc (sv ks) W (HH.out.1.below b) (by omega)
  have K2 : Hid _ := fun (W : World) (b : Below w.heap.size w W) => values_any _ ⟨true, ks, vs, is⟩ W (H.out.below b) F.out rfl
  simp only
  generalize posS ks key = P at *
  have Pi : (P : Int) + 1 = ((P + 1 : Nat) : Int) := by omega
  have PiH : Hid _ := Pi
  have Pb : P ≤ 2000 := by omega
  clear h f h1 h2 h3 l1 l2 ev R b1 fd Pi
  go_enter Try.func26, Try.ntmps26
  go_upto_region 1 with fail
  generalize ((w.alloc (.cells #[.bool true, .slice ka kn kc, .slice va vn vc, .slice ia im ic] 26)).alloc (.cells #[.bool false, (.slice none 0 0), (.slice none 0 0), (.slice none 0 0)] 26)) = W0 at *
  have x0 := C0.out.box.a0
  have x1 := C0.out.box.a1
  have x2 := C0.out.box.a2
  have x3 := C0.out.box.a3
  have LR := C0.out.res.lt
  go_wp2_with fail
  refine Calls.mono (KF.out W0 C0.out.bel) ?_
  rintro e w4 ⟨rfl, b4⟩
  have Q4 : Hid _ := C0.out.next b4
  have y0 := Q4.out.box.a0
  have y1 := Q4.out.box.a1
  have y2 := Q4.out.box.a2
  have y3 := Q4.out.box.a3
  go_wp2_with fail
  refine Calls.mono (K1.out w4 Q4.out.bel) ?_
  rintro e w5 ⟨⟨v5, rfl, o5⟩, b5⟩
  have Q5 : Hid _ := Q4.out.next b5
  have LR4 := Q4.out.res.lt
  have L5 : Hid _ := o5.lt
  have KD : Hid _ := Delete_any v5 ks P _ w5 o5 (by have := LL.out; omega) (by have := LL.out; omega)
  rw [← PiH.out] at KD
  have B5 := b5.size
  clear o5
  go_wp2_with fail
  refine Calls.mono KD.out ?_
  rintro e w6 ⟨⟨a6, c6, rfl, s6, z6⟩, g6⟩
  have Q6 : Hid _ := Q5.out.far g6 (fun k hk => by have := (L5.out k hk).1; exact ⟨by omega, by omega, by omega⟩)
  have B6 := g6.size
  have S6 : Hid _ := s6
  have Y6 : Hid (∀ x, a6 = some x → w4.heap.size ≤ x.block) := fun x hx => by
    rcases z6 x hx with q | q
    · have := (L5.out _ q.symm).1; omega
    · omega
  have u0 := Q6.out.box.a0
  have u1 := Q6.out.box.a1
  have u2 := Q6.out.box.a2
  have u3 := Q6.out.box.a3
  clear s6 z6 g6 KD
  generalize ks.length - 1 = n6 at *
  go_wp2_with fail
  refine Calls.mono (K2.out w6 Q6.out.bel) ?_
  rintro e w7 ⟨⟨v7, rfl, o7⟩, b7⟩
  have Q7 : Hid _ := Q6.out.next b7
  have L7 : Hid _ := o7.lt
  have S7 : Hid _ := S6.out.below b7
  have KD : Hid _ := Delete_any v7 vs P _ w7 o7 (by have := LL.out; omega) (by have := LL.out; omega)
  rw [← PiH.out] at KD
  have B7 := b7.size
  have W6 : Hid (∀ x, a6 = some x → 0 < n6 → x.block < w6.heap.size) := fun x hx q => S6.out.old q x hx
  clear o7
  go_wp2_with fail
  refine Calls.mono KD.out ?_
  rintro e w8 ⟨⟨a8, c8, rfl, s8, z8⟩, g8⟩
  have Q8 : Hid _ := Q7.out.far g8 (fun k hk => by have := (L7.out k hk).1; exact ⟨by omega, by omega, by omega⟩)
  have S8 : Hid _ := s8
  have K8 : Hid _ := S7.out.grown g8 (fun q x hx e => by have := W6.out x hx q; have := (L7.out _ e.symm).1; omega)
  have Y8 : Hid (∀ x, a8 = some x → w4.heap.size ≤ x.block) := fun x hx => by
    rcases z8 x hx with q | q
    · have := (L7.out _ q.symm).1; omega
    · omega
  clear s8 z8 g8 KD
  generalize vs.length - 1 = n8 at *
  have r0 := Q8.out.res.a0
  have r1 := Q8.out.res.a1
  have r2 := Q8.out.res.a2
  have r3 := Q8.out.res.a3
  have rz := Q8.out.fz
  go_wp2
  have X : Hid _ := stored4 Q8.out.res (.bool true) (.slice a6 n6 c6) (.slice a8 n8 c8) (.slice none 0 0)
  have P : Hid (Pv ((((w8.setCell ⟨w.heap.size + 1, 0, none⟩ (.bool true)).setCell ⟨w.heap.size + 1, 1, none⟩ (.slice a6 n6 c6)).setCell ⟨w.heap.size + 1, 2, none⟩ (.slice a8 n8 c8)).setCell ⟨w.heap.size + 1, 3, none⟩ (.slice none 0 0)) (.agg #[.bool true, .slice a6 n6 c6, .slice a8 n8 c8, .slice none 0 0]) ⟨true, delAt ks P, delAt vs P, []⟩) := by
    refine Pv.mk' (K8.out.grown X.out.2 (fun _ x hx e => ?_)) (S8.out.grown X.out.2 (fun _ x hx e => ?_)) (Sl.empty _) (fun k hk => by simp at hk)
    · have := Y6.out x hx; injection e with e; omega
    · have := Y8.out x hx; injection e with e; omega
  have B8 : Hid (Below w.heap.size w ((((w8.setCell ⟨w.heap.size + 1, 0, none⟩ (.bool true)).setCell ⟨w.heap.size + 1, 1, none⟩ (.slice a6 n6 c6)).setCell ⟨w.heap.size + 1, 2, none⟩ (.slice a8 n8 c8)).setCell ⟨w.heap.size + 1, 3, none⟩ (.slice none 0 0))) := Q8.out.bel.grown X.out.2 Q8.out.bel.size (fun k hk => by injection hk with hk; omega)
  generalize ((((w8.setCell ⟨w.heap.size + 1, 0, none⟩ (.bool true)).setCell ⟨w.heap.size + 1, 1, none⟩ (.slice a6 n6 c6)).setCell ⟨w.heap.size + 1, 2, none⟩ (.slice a8 n8 c8)).setCell ⟨w.heap.size + 1, 3, none⟩ (.slice none 0 0)) = W8 at *
  obtain ⟨⟨t0, t1, t2, t3⟩, _⟩ := X.out
  exact bodyPost_ret (v := .agg #[.bool true, .slice a6 n6 c6, .slice a8 n8 c8, .slice none 0 0]) (by simp [results, Try.results26, go_sem, t0, t1, t2, t3]) rfl ⟨⟨_, rfl, P.out⟩, B8.out⟩

theorem Drop_leaf (v : Value) (p : Pg) (key : ByteArray) (w : World) (h : Pv w v p) (f : Fit p) (R : Rise p.keys) (hl : p.leaf = true) :
    Calls Try.prog 26 #[v, .string key] w fun e w' => NewP w w' e (dropP p key) := by
  cases fd : fnd p.keys key with
  | true => exact Drop_yes v p key w h f R hl fd
  | false =>
    rw [dropP_no fd]
    refine Drop_none v p key w h f.bd (fun W b => ?_)
    refine (Find_leaf v p key W (h.below b) f.bd R hl).mono ?_
    rintro e w' ⟨rfl, b'⟩
    rw [fd]
    exact ⟨⟨_, rfl⟩, b'⟩

end Go.Proofs.Ytfedcghkohfhlaa
