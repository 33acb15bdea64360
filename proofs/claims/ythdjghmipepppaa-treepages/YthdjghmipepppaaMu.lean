/- added, left, for every page that comes up. Plain mathematics of trees, on: what is settled on the way up may be settled. -/
import Derived.Test.YthdjghmipepppaaMt
import Derived.Test.YthdjghmipepppaaMo
namespace Go.Proofs.Ythdjghmipepppaa
open Go.RowKit Go.Lib
set_option linter.unusedVariables false
set_option linter.unusedSimpArgs false

theorem added_any (P : Nat) (sl : Value) (vs : List V4) (sh : List Pg) (ill n : Nat) (v : Value) (p : Pg) (w : World) (h : Shf w P sl vs sh ill n) (hn : n ≤ 890000000) (hi : ill ≤ 1000000000) (wl : ill = 0 ∨ n < ill) (hp : Pv w v p) (hf : Fit p) (hg : goodB p = true ∨ Shp p) (hk : Ps p.kids) (hl : sh.length ≤ 900000) :
    Calls Try.prog 32 #[ifP P, v] w fun e w' => AdP w w' P sl sh ill n (halvR sh p) e := by
  unfold halvR
  by_cases c : (encP p).length ≤ 900
  · rw [if_pos c]
    exact added_small P sl vs sh ill n v p w h hn hi wl hp hf hg hk hl c
  · rw [if_neg c]
    exact added_big P sl vs sh ill n v p w h hn hi wl hp hf hg hk hl (by omega)
/-- A page that may be settled. -/
def Stl (p : Pg) : Prop := (p.leaf = true ∧ p.keys = []) ∨ (p.leaf = false ∧ p.kids.length = 1) ∨ ((goodB p = true ∨ Shp p) ∧ Fit p ∧ (p.leaf = true → p.keys ≠ []) ∧ (p.leaf = false → 2 ≤ p.kids.length))

theorem RunV.far {w w' : World} {A : Nat} {kk ii : Value} {q : Run} (h : RunV w kk ii q) (g : w.grownBy w' (some A)) (n : NT w A) (hk : ∀ (kb : Nat) (x : ByteArray), w.heap[kb]? = some (.cells #[.string x] 9 (0, 0)) → kb ≠ A) : RunV w' kk ii q := by
  refine ⟨h.ky.imp id (fun ⟨x, kb, e1, e2, e3⟩ => ⟨x, kb, e1, e2, ?_⟩), h.kd.imp id (fun ⟨d, o, m, c, e1, e2, e3, e4⟩ => ⟨d, o, m, c, e1, e2, e3, e4.gwK h.ps (Gw.of_grown g) n (fun b hb => by cases hb)⟩), h.ps, h.mx, h.eq⟩
  rw [g.block kb (Array.getElem?_eq_some_iff.1 e3).1 (fun e => hk kb x e3 (Option.some.inj e))]
  exact e3

set_option maxRecDepth 100000 in
set_option maxHeartbeats 4000000 in
theorem left_a (P : Nat) (sl : Value) (vs : List V4) (sh : List Pg) (ill n : Nat) (v : Value) (p : Pg) (w : World) (h : Shf w P sl vs sh ill n) (hn : n ≤ 890000000) (hi : ill ≤ 1000000000) (wl : ill = 0 ∨ n < ill) (hp : Pv w v p) (q1 : p.leaf = true) (q2 : p.keys = []) (hk : Ps p.kids) (hl : sh.length ≤ 900000) :
    Calls Try.prog 36 #[ifP P, v] w fun e w' => AdP w w' P sl sh ill n (sh, ⟨[], []⟩) e := by
  have WL : Hid _ := wl
  have lt : Hid _ := h.lt
  have HH : Hid _ := h
  have KP : Hid _ := hk
  obtain ⟨ka, kn, kc, va, vn, vc, ia, im, ic, rfl, h1, _, h3⟩ := hp.ex
  have l1 := h1.slen
  have l3 := h3.klen
  have H3 : Hid _ := h3
  have PV : Hid _ := hp
  have KM : Hid _ := hp.kid
  have gA : Hid (w.heap.size + 1 ≠ P) := (by have := lt.out; omega : w.heap.size + 1 ≠ P)
  have ob1 : Hid (sl.ownBlock ≠ some (w.heap.size + 1)) := HH.out.newer _ (by omega)
  rw [q1]
  have k0 : kn = 0 := by rw [← l1, q2]; rfl
  subst k0
  clear q1 q2
  unfold ifP
  clear h wl hp h1 h3 hk l1 l3
  go_enter Try.func36, Try.ntmps36
  go_upto_region 1 with fail
  have b0 : Hid (Below w.heap.size w ((w.alloc (.cells #[.bool true, .slice ka 0 kc, .slice va vn vc, .slice ia im ic] 54)).alloc (.cells #[.slice none 0 0, .slice none 0 0] 113))) := nextB (allocB w _) (allocB _ _)
  have B0 : Hid _ := (Bq.new w (.bool true) (.slice ka 0 kc) (.slice va vn vc) (.slice ia im ic) 54).below (allocB _ (.cells #[.slice none 0 0, .slice none 0 0] 113))
  have C0 : Hid (Bd2 ((w.alloc (.cells #[.bool true, .slice ka 0 kc, .slice va vn vc, .slice ia im ic] 54)).alloc (.cells #[.slice none 0 0, .slice none 0 0] 113)) (w.heap.size + 1) (.slice none 0 0) (.slice none 0 0)) := by
    have q := Bd2.new (w.alloc (.cells #[.bool true, .slice ka 0 kc, .slice va vn vc, .slice ia im ic] 54)) (.slice none 0 0) (.slice none 0 0) 113
    have e : (w.alloc (.cells #[.bool true, .slice ka 0 kc, .slice va vn vc, .slice ia im ic] 54)).heap.size = w.heap.size + 1 := by simp
    rw [e] at q
    exact q
  generalize (w.alloc (.cells #[.bool true, .slice ka 0 kc, .slice va vn vc, .slice ia im ic] 54)).alloc (.cells #[.slice none 0 0, .slice none 0 0] 113) = w0 at *
  obtain ⟨y0, y1, y2, y3⟩ := B0.out.b4
  have c0 := C0.out.a0
  have c1 := C0.out.a1
  have cz := C0.out.fz
  have nb : Hid _ := C0.out.nt (nt_slice _ _ _) (nt_slice _ _ _)
  have X : Hid _ := C0.out.put (.slice none 0 0) (.slice none 0 0)
  have Y : Hid _ := AddP.of ((HH.out.below b0.out).far X.out.2 gA.out ob1.out nb.out) ((Gw.of_below b0.out P none).store X.out.2 (by omega))
  go_wp2
  generalize (w0.setCell ⟨w.heap.size + 1, 0, none⟩ (.slice none 0 0)).setCell ⟨w.heap.size + 1, 1, none⟩ (.slice none 0 0) = w9 at *
  have t0 := X.out.1.a0
  have t1 := X.out.1.a1
  exact bodyPost_ret (v := .tuple #[.agg #[.slice none 0 0, .slice none 0 0], .int .i64 0]) (by simp [results, Try.results36, go_sem, t0, t1]) rfl (Or.inl ⟨_, _, n, rfl, RunV.mk (Or.inl ⟨rfl, rfl⟩) (Or.inl ⟨rfl, rfl⟩) (fun k hk => by simp at hk) (fun k hk => by simp at hk) (fun _ => rfl), Y.out, Nat.le_refl _, by omega, WL.out⟩)
set_option maxRecDepth 100000 in
set_option maxHeartbeats 4000000 in
theorem left_b (P : Nat) (sl : Value) (vs : List V4) (sh : List Pg) (ill n : Nat) (v : Value) (p : Pg) (w : World) (h : Shf w P sl vs sh ill n) (hn : n ≤ 890000000) (hi : ill ≤ 1000000000) (wl : ill = 0 ∨ n < ill) (hp : Pv w v p) (q1 : p.leaf = false) (q2 : p.kids.length = 1) (hk : Ps p.kids) (hl : sh.length ≤ 900000) :
    Calls Try.prog 36 #[ifP P, v] w fun e w' => AdP w w' P sl sh ill n (sh, ⟨[], p.kids⟩) e := by
  have WL : Hid _ := wl
  have lt : Hid _ := h.lt
  have HH : Hid _ := h
  have KP : Hid _ := hk
  obtain ⟨ka, kn, kc, va, vn, vc, ia, im, ic, rfl, h1, _, h3⟩ := hp.ex
  have l1 := h1.slen
  have l3 := h3.klen
  have H3 : Hid _ := h3
  have PV : Hid _ := hp
  have KM : Hid _ := hp.kid
  have gA : Hid (w.heap.size + 1 ≠ P) := (by have := lt.out; omega : w.heap.size + 1 ≠ P)
  have ob1 : Hid (sl.ownBlock ≠ some (w.heap.size + 1)) := HH.out.newer _ (by omega)
  rw [q1]
  have k0 : im = 1 := by rw [← l3, q2]
  subst k0
  obtain ⟨ib, io, rfl, _⟩ := H3.out.at (by decide)
  have Q2 : Hid _ := q2
  clear q1 q2
  unfold ifP
  clear h wl hp h1 h3 hk l1 l3
  go_enter Try.func36, Try.ntmps36
  go_upto_region 1 with fail
  have b0 : Hid (Below w.heap.size w ((w.alloc (.cells #[.bool false, .slice ka kn kc, .slice va vn vc, .slice (some ⟨ib, io, none⟩) 1 ic] 54)).alloc (.cells #[.slice none 0 0, .slice none 0 0] 113))) := nextB (allocB w _) (allocB _ _)
  have B0 : Hid _ := (Bq.new w (.bool false) (.slice ka kn kc) (.slice va vn vc) (.slice (some ⟨ib, io, none⟩) 1 ic) 54).below (allocB _ (.cells #[.slice none 0 0, .slice none 0 0] 113))
  have C0 : Hid (Bd2 ((w.alloc (.cells #[.bool false, .slice ka kn kc, .slice va vn vc, .slice (some ⟨ib, io, none⟩) 1 ic] 54)).alloc (.cells #[.slice none 0 0, .slice none 0 0] 113)) (w.heap.size + 1) (.slice none 0 0) (.slice none 0 0)) := by
    have q := Bd2.new (w.alloc (.cells #[.bool false, .slice ka kn kc, .slice va vn vc, .slice (some ⟨ib, io, none⟩) 1 ic] 54)) (.slice none 0 0) (.slice none 0 0) 113
    have e : (w.alloc (.cells #[.bool false, .slice ka kn kc, .slice va vn vc, .slice (some ⟨ib, io, none⟩) 1 ic] 54)).heap.size = w.heap.size + 1 := by simp
    rw [e] at q
    exact q
  generalize (w.alloc (.cells #[.bool false, .slice ka kn kc, .slice va vn vc, .slice (some ⟨ib, io, none⟩) 1 ic] 54)).alloc (.cells #[.slice none 0 0, .slice none 0 0] 113) = w0 at *
  obtain ⟨y0, y1, y2, y3⟩ := B0.out.b4
  have c0 := C0.out.a0
  have c1 := C0.out.a1
  have cz := C0.out.fz
  have nb : Hid _ := C0.out.nt (nt_slice _ _ _) (nt_slice _ _ _)
  have X : Hid _ := C0.out.put (.slice none 0 0) (.slice (some ⟨ib, io, none⟩) 1 ic)
  have Y : Hid _ := AddP.of ((HH.out.below b0.out).far X.out.2 gA.out ob1.out nb.out) ((Gw.of_below b0.out P none).store X.out.2 (by omega))
  have RV : Hid (RunV _ (.slice none 0 0) (.slice (some ⟨ib, io, none⟩) 1 ic) ⟨[], p.kids⟩) := RunV.mk (Or.inl ⟨rfl, rfl⟩) (Or.inr ⟨_, _, 1, ic, rfl, Or.inl rfl, Q2.out, (H3.out.below b0.out).gwK KP.out (Gw.of_grown X.out.2) nb.out (fun b hb => by cases hb)⟩) KP.out KM.out (fun e => rfl)
  go_wp2
  generalize (w0.setCell ⟨w.heap.size + 1, 0, none⟩ (.slice none 0 0)).setCell ⟨w.heap.size + 1, 1, none⟩ (.slice (some ⟨ib, io, none⟩) 1 ic) = w9 at *
  have t0 := X.out.1.a0
  have t1 := X.out.1.a1
  exact bodyPost_ret (v := .tuple #[.agg #[.slice none 0 0, .slice (some ⟨ib, io, none⟩) 1 ic], .int .i64 0]) (by simp [results, Try.results36, go_sem, t0, t1]) rfl (Or.inl ⟨_, _, n, rfl, RV.out, Y.out, Nat.le_refl _, by omega, WL.out⟩)
set_option maxRecDepth 100000 in
set_option maxHeartbeats 4000000 in
theorem left_c (P : Nat) (sl : Value) (vs : List V4) (sh : List Pg) (ill n : Nat) (v : Value) (p : Pg) (w : World) (h : Shf w P sl vs sh ill n) (hn : n ≤ 890000000) (hi : ill ≤ 1000000000) (wl : ill = 0 ∨ n < ill) (hp : Pv w v p) (q1 : p.leaf = true) (g : goodB p = true ∨ Shp p) (f : Fit p) (q3 : 0 < p.keys.length) (hk : Ps p.kids) (hl : sh.length ≤ 900000) :
    Calls Try.prog 36 #[ifP P, v] w fun e w' => AdP w w' P sl sh ill n (halvR sh p) e := by
  have WL : Hid _ := wl
  have lt : Hid _ := h.lt
  have HH : Hid _ := h
  have KP : Hid _ := hk
  obtain ⟨ka, kn, kc, va, vn, vc, ia, im, ic, rfl, h1, _, h3⟩ := hp.ex
  have l1 := h1.slen
  have l3 := h3.klen
  have H3 : Hid _ := h3
  have PV : Hid _ := hp
  have KM : Hid _ := hp.kid
  have gA : Hid (w.heap.size + 1 ≠ P) := (by have := lt.out; omega : w.heap.size + 1 ≠ P)
  have ob1 : Hid (sl.ownBlock ≠ some (w.heap.size + 1)) := HH.out.newer _ (by omega)
  have KA : Hid (∀ W, Below w.heap.size w W → _) := fun W b => added_any P sl vs sh ill n _ p W (HH.out.below b) hn hi wl (PV.out.below b) f g hk hl
  rw [q1] at KA ⊢
  generalize halvR sh p = HS at KA ⊢
  obtain ⟨sh2, q⟩ := HS
  have t1 : ((kn : Int) == 0) = false := by simp; omega
  clear q3
  unfold ifP at KA
  clear q1 f g
  unfold ifP
  clear h wl hp h1 h3 hk l1 l3
  go_enter Try.func36, Try.ntmps36
  go_upto_region 1 with fail
  have b0 : Hid (Below w.heap.size w ((w.alloc (.cells #[.bool true, .slice ka kn kc, .slice va vn vc, .slice ia im ic] 54)).alloc (.cells #[.slice none 0 0, .slice none 0 0] 113))) := nextB (allocB w _) (allocB _ _)
  have B0 : Hid _ := (Bq.new w (.bool true) (.slice ka kn kc) (.slice va vn vc) (.slice ia im ic) 54).below (allocB _ (.cells #[.slice none 0 0, .slice none 0 0] 113))
  have C0 : Hid (Bd2 ((w.alloc (.cells #[.bool true, .slice ka kn kc, .slice va vn vc, .slice ia im ic] 54)).alloc (.cells #[.slice none 0 0, .slice none 0 0] 113)) (w.heap.size + 1) (.slice none 0 0) (.slice none 0 0)) := by
    have q := Bd2.new (w.alloc (.cells #[.bool true, .slice ka kn kc, .slice va vn vc, .slice ia im ic] 54)) (.slice none 0 0) (.slice none 0 0) 113
    have e : (w.alloc (.cells #[.bool true, .slice ka kn kc, .slice va vn vc, .slice ia im ic] 54)).heap.size = w.heap.size + 1 := by simp
    rw [e] at q
    exact q
  generalize (w.alloc (.cells #[.bool true, .slice ka kn kc, .slice va vn vc, .slice ia im ic] 54)).alloc (.cells #[.slice none 0 0, .slice none 0 0] 113) = w0 at *
  obtain ⟨y0, y1, y2, y3⟩ := B0.out.b4
  have c0 := C0.out.a0
  have c1 := C0.out.a1
  have cz := C0.out.fz
  have nb : Hid _ := C0.out.nt (nt_slice _ _ _) (nt_slice _ _ _)
  have K : Hid _ := KA.out w0 b0.out
  go_wp2_with fail
  refine Calls.mono K.out ?_
  clear K KA y0 y1 y2 y3 c0 c1 cz
  rintro e w2 A2
  rcases A2 with ⟨kk, ii, n', rfl, rv', A3, n1, n2, wl'⟩ | ⟨a, m, c, a', m', c', t, rfl, A3, iz'⟩
  · obtain ⟨sl2, vs2, S2', G2', N2'⟩ := A3
    have RV2 : Hid (RunV w2 kk ii q) := rv'
    have S2 : Hid _ := S2'
    have G2 : Hid _ := G2'
    have N2 : Hid _ := N2'
    have WL2 : Hid _ := wl'
    obtain ⟨ri, rc, ei⟩ := rv'.ni
    obtain ⟨rk, rkc, ek⟩ := rv'.nk
    clear rv' S2' G2' N2' wl' nb
    simp only at ei ek
    generalize q.kids.length = ql at *
    generalize q.keys.length = qk at *
    subst ei ek
    have ob2 : Hid (sl2.ownBlock ≠ some (w.heap.size + 1)) := fun e => by
      rcases N2.out with q | ⟨g, q, hg⟩
      · exact ob1.out (q.symm.trans e)
      · rw [q] at e
        have := Option.some.inj e
        have := C0.out.lt
        omega
    have C2 : Hid _ := C0.out.gw G2.out gA.out (fun e => ob1.out e.symm)
    have nb : Hid _ := C2.out.nt (nt_slice _ _ _) (nt_slice _ _ _)
    have c0 := C2.out.a0
    have c1 := C2.out.a1
    have cz := C2.out.fz
    have X : Hid _ := C2.out.put (.slice rk qk rkc) (.slice ri ql rc)
    have Y : Hid (AddP w _ P sl sh2 ill n') := ⟨sl2, vs2, S2.out.far X.out.2 gA.out ob2.out nb.out, (Gw.ahead b0.out G2.out).store X.out.2 (by omega), N2.out.imp id (fun ⟨g, q, hg⟩ => ⟨g, q, Nat.le_trans b0.out.size hg⟩)⟩
    have RV3 : Hid _ := RV2.out.far X.out.2 nb.out (fun kb x hx e => by
      subst e
      have q := nb.out 0 (.string x) (by rw [cell_of_row _ _ _ _ _ _ hx]; rfl)
      exact q.1 x rfl)
    go_wp2
    generalize (w2.setCell ⟨w.heap.size + 1, 0, none⟩ (.slice rk qk rkc)).setCell ⟨w.heap.size + 1, 1, none⟩ (.slice ri ql rc) = w9 at *
    have t0 := X.out.1.a0
    have t1 := X.out.1.a1
    exact bodyPost_ret (v := .tuple #[.agg #[.slice rk qk rkc, .slice ri ql rc], .int .i64 0]) (by simp [results, Try.results36, go_sem, t0, t1]) rfl (Or.inl ⟨_, _, n', rfl, RV3.out, Y.out, n1, n2, WL2.out⟩)
  · obtain ⟨sl2, vs2, S2', G2', N2'⟩ := A3
    have S2 : Hid _ := S2'
    have G2 : Hid _ := G2'
    have N2 : Hid _ := N2'
    have iz : Hid _ := iz'
    clear S2' G2' N2' nb iz'
    have ob2 : Hid (sl2.ownBlock ≠ some (w.heap.size + 1)) := fun e => by
      rcases N2.out with q | ⟨g, q, hg⟩
      · exact ob1.out (q.symm.trans e)
      · rw [q] at e
        have := Option.some.inj e
        have := C0.out.lt
        omega
    have C2 : Hid _ := C0.out.gw G2.out gA.out (fun e => ob1.out e.symm)
    have nb : Hid _ := C2.out.nt (nt_slice _ _ _) (nt_slice _ _ _)
    have c0 := C2.out.a0
    have c1 := C2.out.a1
    have cz := C2.out.fz
    have X : Hid _ := C2.out.put (.slice a m c) (.slice a' m' c')
    have Y : Hid (AddP w _ P sl (sh ++ t) ill ill) := ⟨sl2, vs2, S2.out.far X.out.2 gA.out ob2.out nb.out, (Gw.ahead b0.out G2.out).store X.out.2 (by omega), N2.out.imp id (fun ⟨g, q, hg⟩ => ⟨g, q, Nat.le_trans b0.out.size hg⟩)⟩
    go_wp2
    generalize (w2.setCell ⟨w.heap.size + 1, 0, none⟩ (.slice a m c)).setCell ⟨w.heap.size + 1, 1, none⟩ (.slice a' m' c') = w9 at *
    have t0 := X.out.1.a0
    have t1 := X.out.1.a1
    exact bodyPost_ret (v := .tuple #[.agg #[.slice a m c, .slice a' m' c'], .int .i64 4]) (by simp [results, Try.results36, go_sem, t0, t1]) rfl (Or.inr ⟨_, _, _, _, _, _, t, rfl, Y.out, iz.out⟩)
set_option maxRecDepth 100000 in
set_option maxHeartbeats 4000000 in
theorem left_d (P : Nat) (sl : Value) (vs : List V4) (sh : List Pg) (ill n : Nat) (v : Value) (p : Pg) (w : World) (h : Shf w P sl vs sh ill n) (hn : n ≤ 890000000) (hi : ill ≤ 1000000000) (wl : ill = 0 ∨ n < ill) (hp : Pv w v p) (q1 : p.leaf = false) (g : goodB p = true ∨ Shp p) (f : Fit p) (q3 : 2 ≤ p.kids.length) (hk : Ps p.kids) (hl : sh.length ≤ 900000) :
    Calls Try.prog 36 #[ifP P, v] w fun e w' => AdP w w' P sl sh ill n (halvR sh p) e := by
  have WL : Hid _ := wl
  have lt : Hid _ := h.lt
  have HH : Hid _ := h
  have KP : Hid _ := hk
  obtain ⟨ka, kn, kc, va, vn, vc, ia, im, ic, rfl, h1, _, h3⟩ := hp.ex
  have l1 := h1.slen
  have l3 := h3.klen
  have H3 : Hid _ := h3
  have PV : Hid _ := hp
  have KM : Hid _ := hp.kid
  have gA : Hid (w.heap.size + 1 ≠ P) := (by have := lt.out; omega : w.heap.size + 1 ≠ P)
  have ob1 : Hid (sl.ownBlock ≠ some (w.heap.size + 1)) := HH.out.newer _ (by omega)
  have KA : Hid (∀ W, Below w.heap.size w W → _) := fun W b => added_any P sl vs sh ill n _ p W (HH.out.below b) hn hi wl (PV.out.below b) f g hk hl
  rw [q1] at KA ⊢
  generalize halvR sh p = HS at KA ⊢
  obtain ⟨sh2, q⟩ := HS
  have t2 : ¬ ((im : Int) < 2) := by omega
  clear q3
  unfold ifP at KA
  clear q1 f g
  unfold ifP
  clear h wl hp h1 h3 hk l1 l3
  go_enter Try.func36, Try.ntmps36
  go_upto_region 1 with fail
  have b0 : Hid (Below w.heap.size w ((w.alloc (.cells #[.bool false, .slice ka kn kc, .slice va vn vc, .slice ia im ic] 54)).alloc (.cells #[.slice none 0 0, .slice none 0 0] 113))) := nextB (allocB w _) (allocB _ _)
  have B0 : Hid _ := (Bq.new w (.bool false) (.slice ka kn kc) (.slice va vn vc) (.slice ia im ic) 54).below (allocB _ (.cells #[.slice none 0 0, .slice none 0 0] 113))
  have C0 : Hid (Bd2 ((w.alloc (.cells #[.bool false, .slice ka kn kc, .slice va vn vc, .slice ia im ic] 54)).alloc (.cells #[.slice none 0 0, .slice none 0 0] 113)) (w.heap.size + 1) (.slice none 0 0) (.slice none 0 0)) := by
    have q := Bd2.new (w.alloc (.cells #[.bool false, .slice ka kn kc, .slice va vn vc, .slice ia im ic] 54)) (.slice none 0 0) (.slice none 0 0) 113
    have e : (w.alloc (.cells #[.bool false, .slice ka kn kc, .slice va vn vc, .slice ia im ic] 54)).heap.size = w.heap.size + 1 := by simp
    rw [e] at q
    exact q
  generalize (w.alloc (.cells #[.bool false, .slice ka kn kc, .slice va vn vc, .slice ia im ic] 54)).alloc (.cells #[.slice none 0 0, .slice none 0 0] 113) = w0 at *
  obtain ⟨y0, y1, y2, y3⟩ := B0.out.b4
  have c0 := C0.out.a0
  have c1 := C0.out.a1
  have cz := C0.out.fz
  have nb : Hid _ := C0.out.nt (nt_slice _ _ _) (nt_slice _ _ _)
  have K : Hid _ := KA.out w0 b0.out
  go_wp2_with fail
  refine Calls.mono K.out ?_
  clear K KA y0 y1 y2 y3 c0 c1 cz
  rintro e w2 A2
  rcases A2 with ⟨kk, ii, n', rfl, rv', A3, n1, n2, wl'⟩ | ⟨a, m, c, a', m', c', t, rfl, A3, iz'⟩
  · obtain ⟨sl2, vs2, S2', G2', N2'⟩ := A3
    have RV2 : Hid (RunV w2 kk ii q) := rv'
    have S2 : Hid _ := S2'
    have G2 : Hid _ := G2'
    have N2 : Hid _ := N2'
    have WL2 : Hid _ := wl'
    obtain ⟨ri, rc, ei⟩ := rv'.ni
    obtain ⟨rk, rkc, ek⟩ := rv'.nk
    clear rv' S2' G2' N2' wl' nb
    simp only at ei ek
    generalize q.kids.length = ql at *
    generalize q.keys.length = qk at *
    subst ei ek
    have ob2 : Hid (sl2.ownBlock ≠ some (w.heap.size + 1)) := fun e => by
      rcases N2.out with q | ⟨g, q, hg⟩
      · exact ob1.out (q.symm.trans e)
      · rw [q] at e
        have := Option.some.inj e
        have := C0.out.lt
        omega
    have C2 : Hid _ := C0.out.gw G2.out gA.out (fun e => ob1.out e.symm)
    have nb : Hid _ := C2.out.nt (nt_slice _ _ _) (nt_slice _ _ _)
    have c0 := C2.out.a0
    have c1 := C2.out.a1
    have cz := C2.out.fz
    have X : Hid _ := C2.out.put (.slice rk qk rkc) (.slice ri ql rc)
    have Y : Hid (AddP w _ P sl sh2 ill n') := ⟨sl2, vs2, S2.out.far X.out.2 gA.out ob2.out nb.out, (Gw.ahead b0.out G2.out).store X.out.2 (by omega), N2.out.imp id (fun ⟨g, q, hg⟩ => ⟨g, q, Nat.le_trans b0.out.size hg⟩)⟩
    have RV3 : Hid _ := RV2.out.far X.out.2 nb.out (fun kb x hx e => by
      subst e
      have q := nb.out 0 (.string x) (by rw [cell_of_row _ _ _ _ _ _ hx]; rfl)
      exact q.1 x rfl)
    go_wp2
    generalize (w2.setCell ⟨w.heap.size + 1, 0, none⟩ (.slice rk qk rkc)).setCell ⟨w.heap.size + 1, 1, none⟩ (.slice ri ql rc) = w9 at *
    have t0 := X.out.1.a0
    have t1 := X.out.1.a1
    exact bodyPost_ret (v := .tuple #[.agg #[.slice rk qk rkc, .slice ri ql rc], .int .i64 0]) (by simp [results, Try.results36, go_sem, t0, t1]) rfl (Or.inl ⟨_, _, n', rfl, RV3.out, Y.out, n1, n2, WL2.out⟩)
  · obtain ⟨sl2, vs2, S2', G2', N2'⟩ := A3
    have S2 : Hid _ := S2'
    have G2 : Hid _ := G2'
    have N2 : Hid _ := N2'
    have iz : Hid _ := iz'
    clear S2' G2' N2' nb iz'
    have ob2 : Hid (sl2.ownBlock ≠ some (w.heap.size + 1)) := fun e => by
      rcases N2.out with q | ⟨g, q, hg⟩
      · exact ob1.out (q.symm.trans e)
      · rw [q] at e
        have := Option.some.inj e
        have := C0.out.lt
        omega
    have C2 : Hid _ := C0.out.gw G2.out gA.out (fun e => ob1.out e.symm)
    have nb : Hid _ := C2.out.nt (nt_slice _ _ _) (nt_slice _ _ _)
    have c0 := C2.out.a0
    have c1 := C2.out.a1
    have cz := C2.out.fz
    have X : Hid _ := C2.out.put (.slice a m c) (.slice a' m' c')
    have Y : Hid (AddP w _ P sl (sh ++ t) ill ill) := ⟨sl2, vs2, S2.out.far X.out.2 gA.out ob2.out nb.out, (Gw.ahead b0.out G2.out).store X.out.2 (by omega), N2.out.imp id (fun ⟨g, q, hg⟩ => ⟨g, q, Nat.le_trans b0.out.size hg⟩)⟩
    go_wp2
    generalize (w2.setCell ⟨w.heap.size + 1, 0, none⟩ (.slice a m c)).setCell ⟨w.heap.size + 1, 1, none⟩ (.slice a' m' c') = w9 at *
    have t0 := X.out.1.a0
    have t1 := X.out.1.a1
    exact bodyPost_ret (v := .tuple #[.agg #[.slice a m c, .slice a' m' c'], .int .i64 4]) (by simp [results, Try.results36, go_sem, t0, t1]) rfl (Or.inr ⟨_, _, _, _, _, _, t, rfl, Y.out, iz.out⟩)
theorem left_any (P : Nat) (sl : Value) (vs : List V4) (sh : List Pg) (ill n : Nat) (v : Value) (p : Pg) (w : World) (h : Shf w P sl vs sh ill n) (hn : n ≤ 890000000) (hi : ill ≤ 1000000000) (wl : ill = 0 ∨ n < ill) (hp : Pv w v p) (hc : Stl p) (hk : Ps p.kids) (hl : sh.length ≤ 900000) :
    Calls Try.prog 36 #[ifP P, v] w fun e w' => AdP w w' P sl sh ill n (leftR sh p) e := by
  unfold leftR
  rcases hc with ⟨q1, q2⟩ | ⟨q1, q2⟩ | ⟨q1, q2, q3, q4⟩
  · rw [if_pos q1, if_pos (by rw [q2]; rfl)]
    exact left_a P sl vs sh ill n v p w h hn hi wl hp q1 q2 hk hl
  · rw [if_neg (by rw [q1]; simp), if_pos (by omega)]
    exact left_b P sl vs sh ill n v p w h hn hi wl hp q1 q2 hk hl
  · cases e : p.leaf with
    | true =>
      have : 0 < p.keys.length := List.length_pos_iff.2 (q3 e)
      rw [if_pos rfl, if_neg (by omega)]
      exact left_c P sl vs sh ill n v p w h hn hi wl hp e q1 q2 this hk hl
    | false =>
      have := q4 e
      rw [if_neg (by simp), if_neg (by omega)]
      exact left_d P sl vs sh ill n v p w h hn hi wl hp e q1 q2 this hk hl

end Go.Proofs.Ythdjghmipepppaa

namespace Go.Proofs.Ythdjghmipepppaa
open Go.RowKit
set_option linter.unusedVariables false
set_option linter.unusedSimpArgs false

theorem bt_fit {sh : List Pg} {r : Nat} {ks : List ByteArray} {S : List Seg} (b : Bt (Tr sh r) ks S) (z : Kz ks) (hL : (lall S).length ≤ 127) (hs : sh.length ≤ 1000000) : goodB ⟨false, ks, [], S.map (·.n)⟩ = true ∧ Fit ⟨false, ks, [], S.map (·.n)⟩ ∧ Ps (S.map (·.n)) := by
  have gg := good_bt b z
  have few := b.few
  have hl := b.len
  have num : ∀ k ∈ S.map (·.n), 0 < k ∧ k ≤ sh.length := fun k hk => by
    obtain ⟨s, hs', rfl⟩ := List.mem_map.1 hk
    obtain ⟨j, hj, rfl⟩ := List.mem_iff_getElem.1 hs'
    exact (b.ok j _ (List.getElem?_eq_getElem hj)).1.num
  exact ⟨gg, fit_of gg (by show ks.length ≤ 127; omega) (fun q => by simp at q) (fun k hk => by have := num k hk; omega), fun k hk => (num k hk).1⟩
/-- A branch with a run in its kid's place may be settled. -/
theorem with_ok {sh : List Pg} {r n i : Nat} {p : Pg} {S : List Seg} {s : Seg} {M : List It} {Q : List Pg × Run} (g : goodB p = true) (l : p.leaf = false) (ne : p.keys ≠ []) (e1 : p.kids = S.map (·.n)) (bt : Bt (Tr sh r) p.keys S) (hsi : S[i]? = some s) (ih : QR sh r s.n M s.f Q)
    (lo : 0 < i → ∀ x ∈ M, leS (kAt p.keys (i - 1)) x.1 = true) (up : i < p.keys.length → ∀ x ∈ M, ltS x.1 (kAt p.keys i) = true) (hL : (lall (S.take i) ++ M ++ lall (S.drop (i + 1))).length ≤ 127) (hs : sh.length + 2 * (r + 1) < 1000000) :
    (withR p i Q.2).leaf = false ∧ Ps (withR p i Q.2).kids ∧ (((withR p i Q.2).kids.length = 1 ∧ Q.2.kids = []) ∨ (goodB (withR p i Q.2) = true ∧ Fit (withR p i Q.2) ∧ 2 ≤ (withR p i Q.2).kids.length)) := by
  obtain ⟨rs, z⟩ := leaf_keys g
  have hl := bt.len
  have il := lt_of_some hsi
  have k1 : 1 ≤ p.keys.length := List.length_pos_iff.2 ne
  have kl : p.kids.length = S.length := by rw [e1, List.length_map]
  obtain ⟨sh', run⟩ := Q
  obtain ⟨⟨t, et, tl⟩, cs⟩ := ih
  simp only at et cs ⊢
  subst et
  have hs2 : (sh ++ t).length ≤ 1000000 := by rw [List.length_append]; omega
  obtain ⟨q, nl⟩ | ⟨a, f', q, tr, ff⟩ | ⟨x, a, b, M1, M2, g1, g2, q, m1, m2, m3, m4, m5, m6, m7, _⟩ := cs
  · rw [q, withR_none i (by omega)]
    have b2 := (bt.mono (Q := Tr (sh ++ t) r) (fun _ _ _ q => q.app t)).del il k1
    have im : i - 1 < p.keys.length := by omega
    have dk : (delAt p.kids i).length = S.length - 1 := by rw [delAt_len (by omega), kl]
    have dm : lall (S.take i) ++ M ++ lall (S.drop (i + 1)) = lall (delAt S i) := by rw [nl, List.append_nil, lall_del]
    rw [dm] at hL
    have kz : Kz (delAt p.keys (i - 1)) := fun j hj => by
      have := delAt_len (l := p.keys) im
      rw [kAt_del im]
      by_cases c1 : j < i - 1
      · rw [if_pos c1]; exact z j (by omega)
      · rw [if_neg c1]; exact z _ (by omega)
    obtain ⟨f1, f2, f3⟩ := bt_fit b2 kz hL hs2
    rw [map_del, ← e1] at f1 f2 f3
    refine ⟨rfl, f3, ?_⟩
    simp only
    rcases Nat.lt_or_ge (delAt p.kids i).length 2 with d | d
    · exact Or.inl ⟨by omega, trivial⟩
    · exact Or.inr ⟨f1, f2, d⟩
  · rw [q, withR_one]
    have b2 := bt.set (Q := Tr (sh ++ t) r) (fun _ _ _ q => q.app t) (i := i) (sa := ⟨a, M, f'⟩) il ⟨tr, tr.ne⟩ lo up
    obtain ⟨f1, f2, f3⟩ := bt_fit b2 z (by rw [lall_set]; exact hL) hs2
    rw [map_set, ← e1] at f1 f2 f3
    exact ⟨rfl, f3, Or.inr ⟨f1, f2, by simp only; rw [setLen (by omega)]; omega⟩⟩
  · rw [q, withR_two]
    rw [m1] at lo up hL
    have b2 := bt.ins (Q := Tr (sh ++ t) r) (fun _ _ _ q => q.app t) (i := i) (sa := ⟨a, M1, g1⟩) (sb := ⟨b, M2, g2⟩) (x := x) il ⟨m2, m2.ne⟩ ⟨m3, m3.ne⟩
      (fun h0 y hy => lo h0 y (by simp only at hy; simp [hy])) m4 m5 (fun h0 y hy => up h0 y (by simp only at hy; simp [hy]))
    have kz : Kz (insAt p.keys i x) := fun j hj => by
      rw [insAt_len (by omega)] at hj
      rw [kAt_ins (by omega)]
      by_cases c1 : j < i
      · rw [if_pos c1]; exact z j (by omega)
      · rw [if_neg c1]
        by_cases c2 : j = i
        · rw [if_pos c2]; exact m6
        · rw [if_neg c2]; exact z _ (by omega)
    obtain ⟨f1, f2, f3⟩ := bt_fit b2 kz (by rw [lall_ins]; exact hL) hs2
    rw [map_ins, ← e1] at f1 f2 f3
    exact ⟨rfl, f3, Or.inr ⟨f1, f2, by simp only; rw [ins2_len (by omega)]; omega⟩⟩
/-- What each step on the way up asks. -/
def Chn (σ : List Pg → Pg → List Pg × Run) (A : Pg → Prop) : List (Pg × Nat) → List Pg × Run → Prop
  | [], _ => True
  | st :: l, q => Chn σ A l q ∧ goodB st.1 = true ∧ st.1.leaf = false ∧ 1 ≤ st.1.keys.length ∧ st.1.keys.length ≤ 127 ∧ st.2 < st.1.kids.length ∧ Ps st.1.kids ∧ A (withR st.1 st.2 (upG σ l q).2) ∧ Ps (withR st.1 st.2 (upG σ l q).2).kids ∧ (upG σ l q).1.length ≤ 900000
def Adm (p : Pg) : Prop := (goodB p = true ∨ Shp p) ∧ Fit p
theorem chn_drop (k : ByteArray) : ∀ (r : Nat) (sh : List Pg) (n : Nat) (L : List It) (f : Nat), Tr sh r n L f → (∃ x ∈ L, x.1 = k) → L.length ≤ 126 → sh.length + 2 * r < 900000 → Chn leftR Stl (wayF r sh n k).1 (leftR sh (dropP (wayF r sh n k).2 k)) ∧ (wayF r sh n k).2.leaf = true ∧ goodB (wayF r sh n k).2 = true ∧ Fit (wayF r sh n k).2 ∧ fnd (wayF r sh n k).2.keys k = true ∧ Stl (dropP (wayF r sh n k).2 k) ∧ Ps (dropP (wayF r sh n k).2 k).kids ∧ Ps (wayF r sh n k).2.kids
  | 0, _, _, _, _, h, _, _, _ => False.elim h
  | r + 1, sh, n, L, f, h, hx, hL, hs => by
    have h' := h
    obtain ⟨r', p', er, h1', g', ft, nk, ps, _⟩ := h.top (by omega) (by omega)
    obtain ⟨p, h1, hp, h3⟩ := h
    rw [h1] at h1'
    have ep := Option.some.inj h1'
    subst ep
    obtain ⟨g, ne, ⟨l, rfl, rfl⟩ | ⟨l, S, e1, rfl, rfl, bt⟩⟩ := hp
    · have e := (goodB_leaf g l).1
      obtain ⟨rs, z⟩ := leaf_keys g
      have fd : fnd p.keys k = true := by
        obtain ⟨x, hx, rfl⟩ := hx
        obtain ⟨i, hi, rfl⟩ := zipK_mem e hx
        exact (fnd_mem rs).2 (by show kAt p.keys i ∈ p.keys; rw [kAt_get hi]; exact List.getElem_mem hi)
      obtain ⟨g2, l2⟩ := good_drop g l fd
      have kd : (dropP p k).kids = [] := (goodB_leaf g2 l2).2
      rw [wayF_leaf h1 l]
      refine ⟨trivial, l, g, ft, fd, ?_, fun x hx => by rw [kd] at hx; simp at hx, ps⟩
      by_cases c : (dropP p k).keys = []
      · exact Or.inl ⟨l2, c⟩
      · have dl : (dropP p k).keys.length ≤ 127 := by
          rw [dropP_yes fd]
          have := delAt_len (l := p.keys) (i := posS p.keys k) (fnd_true fd).1
          simp only
          omega
        exact Or.inr (Or.inr ⟨Or.inl g2, fit_of g2 dl (fun _ => Nat.le_trans (drop_bytes g l (h3 l) fd) (by decide)) (fun x hx => by rw [kd] at hx; simp at hx), fun _ => c, fun q => by rw [l2] at q; cases q⟩)
    · obtain ⟨rs, z⟩ := leaf_keys g
      have hl := bt.len
      have pl := plS_le p.keys k
      obtain ⟨i, hi⟩ : ∃ i, i = plS p.keys k := ⟨_, rfl⟩
      obtain ⟨s, hsi⟩ : ∃ s, S[i]? = some s := ⟨_, List.getElem?_eq_getElem (by omega)⟩
      have gd : p.kids.getD i 0 = s.n := by rw [e1]; exact getD_map hsi
      have la := lall_at hsi
      have ah := bt.ahead (k := k)
      have bh := bt.behind rs (k := k)
      rw [← hi] at ah bh
      have hx' : ∃ x ∈ s.L, x.1 = k := by
        obtain ⟨x, hx, rfl⟩ := hx
        rw [la] at hx
        rcases List.mem_append.1 hx with q | q
        · rcases List.mem_append.1 q with q | q
          · have := ah x q; rw [ltS_irrefl] at this; cases this
          · exact ⟨x, q, rfl⟩
        · have := bh x q; rw [ltS_irrefl] at this; cases this
      have sL : s.L.length ≤ 126 := by rw [la] at hL; simp only [List.length_append] at hL; omega
      have tr := (bt.ok i s hsi).1
      have ih := drop_ok k r sh s.n s.L s.f tr hx' (by omega) (by omega)
      obtain ⟨c1, c2, c3, c4, c5, c6, c7, c8⟩ := chn_drop k r sh s.n s.L s.f tr hx' sL (by omega)
      have dl : (dropL s.L k).length ≤ s.L.length := dropL_len s.L k
      have W := with_ok (n := n) g l ne e1 bt hsi ih (fun h0 x hx => bt.lo i s hsi h0 x (dropL_mem hx).1) (fun h0 x hx => bt.hi i s hsi h0 x (dropL_mem hx).1) (by rw [la] at hL; simp only [List.length_append] at hL ⊢; omega) (by omega)
      rw [wayF_branch h1 l, ← hi, gd]
      obtain ⟨t, et, tl⟩ := ih.grow
      refine ⟨⟨c1, g, l, List.length_pos_iff.2 ne, nk, by show i < p.kids.length; rw [e1, List.length_map]; omega, ps, ?_, W.2.1, ?_⟩, c2, c3, c4, c5, c6, c7, c8⟩
      · rcases W.2.2 with ⟨q, _⟩ | ⟨q1, q2, q3⟩
        · exact Or.inr (Or.inl ⟨W.1, q⟩)
        · exact Or.inr (Or.inr ⟨Or.inl q1, q2, (fun q => by have q' : (withR p i (dropQ r sh s.n k).2).leaf = true := q; rw [W.1] at q'; cases q'), fun _ => q3⟩)
      · have e : (upG leftR (wayF r sh s.n k).1 (leftR sh (dropP (wayF r sh s.n k).2 k))).1 = sh ++ t := et
        rw [e, List.length_append]
        omega
theorem put_qr {sh : List Pg} {r n : Nat} {L : List It} {f : Nat} {k v : ByteArray} (h : Tr sh r n L f) (hk : 1 ≤ k.size ∧ k.size ≤ 40) (hv : v.size ≤ 400) (hL : L.length ≤ 126) (hs : sh.length + 2 * r < 2000000) : QR sh r n (putL L k v) f (putQ r sh n k v) := by
  have P := put_ok k v hk hv r sh n L f h hL hs
  rw [putQ_is k v r sh n L f h]
  unfold runOf
  refine ⟨P.grow, ?_⟩
  by_cases c : (putF r sh n k v).2.2.2 = 0
  · obtain ⟨f', t1, t2⟩ := P.one c
    simp only
    rw [if_pos c]
    exact Or.inr (Or.inl ⟨_, f', rfl, t1, t2⟩)
  · obtain ⟨L1, L2, f1, f2, b1, b2, b3, b4, b5, b6, b7, b8⟩ := P.two c
    simp only
    rw [if_neg c]
    exact Or.inr (Or.inr ⟨_, _, _, L1, L2, f1, f2, rfl, b1, b2, b3, b4, b5, b6, b7, b8⟩)
theorem chn_put (k v : ByteArray) (hk : 1 ≤ k.size ∧ k.size ≤ 40) (hv : v.size ≤ 400) : ∀ (r : Nat) (sh : List Pg) (n : Nat) (L : List It) (f : Nat), Tr sh r n L f → L.length ≤ 125 → sh.length + 2 * r < 900000 → Chn halvR Adm (wayF r sh n k).1 (halvR sh (putP (wayF r sh n k).2 k v)) ∧ (wayF r sh n k).2.leaf = true ∧ goodB (wayF r sh n k).2 = true ∧ Fit (wayF r sh n k).2 ∧ Adm (putP (wayF r sh n k).2 k v) ∧ Ps (putP (wayF r sh n k).2 k v).kids ∧ Ps (wayF r sh n k).2.kids
  | 0, _, _, _, _, h, _, _ => False.elim h
  | r + 1, sh, n, L, f, h, hL, hs => by
    have h' := h
    obtain ⟨r', p', er, h1', g', ft, nk, ps, _⟩ := h.top (by omega) (by omega)
    obtain ⟨p, h1, hp, h3⟩ := h
    rw [h1] at h1'
    have ep := Option.some.inj h1'
    subst ep
    obtain ⟨g, ne, ⟨l, rfl, rfl⟩ | ⟨l, S, e1, rfl, rfl, bt⟩⟩ := hp
    · have e := (goodB_leaf g l).1
      have zl := zipK_len e
      obtain ⟨g2, l2, _⟩ := good_put g l hk hv
      have kd : (putP p k v).kids = [] := (goodB_leaf g2 l2).2
      have pl : (putP p k v).keys.length ≤ 127 := by
        have q := congrArg List.length (zip_put e (leaf_keys g).1 k v)
        rw [zipK_len (goodB_leaf g2 l2).1] at q
        have := putL_len (zipK p.keys p.vals) k v
        omega
      rw [wayF_leaf h1 l]
      exact ⟨trivial, l, g, ft, ⟨Or.inl g2, fit_of g2 pl (fun _ => put_bytes g l (h3 l) (by omega) hk.2 hv) (fun x hx => by rw [kd] at hx; simp at hx)⟩, fun x hx => by rw [kd] at hx; simp at hx, ps⟩
    · obtain ⟨rs, z⟩ := leaf_keys g
      have hl := bt.len
      have pl := plS_le p.keys k
      obtain ⟨i, hi⟩ : ∃ i, i = plS p.keys k := ⟨_, rfl⟩
      obtain ⟨s, hsi⟩ : ∃ s, S[i]? = some s := ⟨_, List.getElem?_eq_getElem (by omega)⟩
      have gd : p.kids.getD i 0 = s.n := by rw [e1]; exact getD_map hsi
      have la := lall_at hsi
      have sL : s.L.length ≤ 125 := by rw [la] at hL; simp only [List.length_append] at hL; omega
      have tr := (bt.ok i s hsi).1
      have ih := put_qr (k := k) (v := v) tr hk hv (by omega) (by omega)
      obtain ⟨c1, c2, c3, c4, c5, c6, c7⟩ := chn_put k v hk hv r sh s.n s.L s.f tr sL (by omega)
      have pL := putL_len s.L k v
      have lo : 0 < i → ∀ x ∈ putL s.L k v, leS (kAt p.keys (i - 1)) x.1 = true := fun h0 x hx => by
        rcases putL_mem hx with q | q
        · rw [q]; show leS _ k = true; exact pl_le (by omega)
        · exact bt.lo i s hsi h0 x q
      have up : i < p.keys.length → ∀ x ∈ putL s.L k v, ltS x.1 (kAt p.keys i) = true := fun h0 x hx => by
        rcases putL_mem hx with q | q
        · rw [q]; show ltS k _ = true; exact pl_gt rs (by omega) h0
        · exact bt.hi i s hsi h0 x q
      have W := with_ok (n := n) g l ne e1 bt hsi ih lo up (by rw [la] at hL; simp only [List.length_append] at hL ⊢; omega) (by omega)
      rw [wayF_branch h1 l, ← hi, gd]
      obtain ⟨t, et, tl⟩ := ih.grow
      refine ⟨⟨c1, g, l, List.length_pos_iff.2 ne, nk, by show i < p.kids.length; rw [e1, List.length_map]; omega, ps, ?_, W.2.1, ?_⟩, c2, c3, c4, c5, c6, c7⟩
      · rcases W.2.2 with ⟨q, q2⟩ | ⟨q1, q2, q3⟩
        · exfalso
          have := ih.cs
          rcases this with ⟨_, nl⟩ | ⟨a, _, e, _⟩ | ⟨_, a, b, _, _, _, _, e, _⟩
          · exact putL_ne _ _ _ nl
          · rw [e] at q2; simp at q2
          · rw [e] at q2; simp at q2
        · exact ⟨Or.inl q1, q2⟩
      · have e : (upG halvR (wayF r sh s.n k).1 (halvR sh (putP (wayF r sh s.n k).2 k v))).1 = sh ++ t := et
        rw [e, List.length_append]
        omega
/-- The steps of a way: good branches. -/
theorem way_good (k : ByteArray) : ∀ (r : Nat) (sh : List Pg) (n : Nat) (L : List It) (f : Nat), Tr sh r n L f → L.length ≤ 127 → sh.length ≤ 1000000 → (wayF r sh n k).1.length + 1 ≤ r ∧ ∀ st ∈ (wayF r sh n k).1, goodB st.1 = true ∧ st.1.leaf = false ∧ 1 ≤ st.1.keys.length ∧ st.1.keys.length ≤ 127 ∧ st.2 < st.1.kids.length ∧ st.2 ≤ st.1.keys.length
  | 0, _, _, _, _, h, _, _ => False.elim h
  | r + 1, sh, n, L, f, h, hL, hs => by
    obtain ⟨r', p, er, h1, g, ft, nk, ps, c⟩ := h.top hL (by omega)
    cases er
    rcases c with ⟨l, _⟩ | ⟨l, k1, S, e1, e2, bt⟩
    · rw [wayF_leaf h1 l]
      exact ⟨by simp, fun st hst => by simp at hst⟩
    · obtain ⟨L2, f2, tr2, l2, kk⟩ := Tr.kid g e1 bt k
      obtain ⟨i1, i2⟩ := way_good k r sh _ L2 f2 tr2 (by rw [e2] at hL; omega) hs
      rw [wayF_branch h1 l]
      refine ⟨by rw [List.length_cons]; omega, fun st hst => ?_⟩
      rcases List.mem_cons.1 hst with q | q
      · subst q
        exact ⟨g, l, k1, nk, kk, plS_le _ _⟩
      · exact i2 st q
/-- A run that may come in a kid's place. -/
def Rn (q : Run) : Prop := ((q.kids = [] ∧ q.keys = []) ∨ (q.kids.length = q.keys.length + 1 ∧ q.kids.length ≤ 2)) ∧ (∀ s ∈ q.keys, s.size ≤ 40) ∧ (∀ k ∈ q.kids, k < 18446744073709551616)
theorem with_shp {p : Pg} {i : Nat} {q : Run} (g : goodB p = true) (l : p.leaf = false) (k1 : 1 ≤ p.keys.length) (k2 : p.keys.length ≤ 127) (hi : i < p.kids.length) (km : ∀ k ∈ p.kids, k < 18446744073709551616) (r : Rn q) : Shp (withR p i q) ∧ Fit (withR p i q) ∧ (∀ s ∈ (withR p i q).keys, s.size ≤ 40) := by
  obtain ⟨rs, z⟩ := leaf_keys g
  obtain ⟨gv, gk⟩ := goodB_branch g l
  have zk := kz_mem z
  obtain ⟨r1, r2, r3⟩ := r
  have ks : ∀ s ∈ (withR p i q).keys, s.size ≤ 40 := fun s hs => by
    unfold withR at hs
    simp only at hs
    split at hs
    · rcases List.mem_append.1 hs with hs | hs
      · rcases List.mem_append.1 hs with hs | hs
        · exact zk s (List.mem_of_mem_take hs)
        · exact r2 s hs
      · exact zk s (List.mem_of_mem_drop hs)
    · split at hs
      · exact zk s (mem_del hs)
      · exact zk s hs
  have km2 : ∀ k ∈ (withR p i q).kids, k < 18446744073709551616 := fun k hk => by
    unfold withR at hk
    simp only at hk
    rcases List.mem_append.1 hk with hk | hk
    · rcases List.mem_append.1 hk with hk | hk
      · exact km k (List.mem_of_mem_take hk)
      · exact r3 k hk
    · exact km k (List.mem_of_mem_drop hk)
  have len : (withR p i q).kids.length = (withR p i q).keys.length + 1 ∧ (withR p i q).keys.length ≤ 128 := by
    unfold withR
    simp only
    rcases r1 with ⟨e1, e2⟩ | ⟨e1, e2⟩
    · rw [e1, if_neg (by simp), if_pos (by omega)]
      have := delAt_len (l := p.keys) (i := i - 1) (by omega)
      simp only [List.length_append, List.length_take, List.length_drop, List.length_nil]
      omega
    · rw [if_pos (by omega)]
      simp only [List.length_append, List.length_take, List.length_drop]
      omega
  refine ⟨⟨rfl, rfl, len.1⟩, ⟨by omega, by show ([] : List ByteArray).length ≤ 2000; simp, by omega, ?_, by show tot [] ≤ 10000; simp [tot], km2, fun q => by cases q⟩, ks⟩
  have := tot_mul _ 40 ks
  omega
theorem halv_rn {sh : List Pg} {p : Pg} (ks : ∀ s ∈ p.keys, s.size ≤ 40) (hs : sh.length < 1000000) : Rn (halvR sh p).2 ∧ (halvR sh p).1.length ≤ sh.length + 2 := by
  unfold halvR
  by_cases c : (encP p).length ≤ 900
  · rw [if_pos c]
    exact ⟨⟨Or.inr ⟨rfl, by simp⟩, fun s hs => by simp at hs, fun k hk => by simp at hk; omega⟩, by simp⟩
  · rw [if_neg c]
    refine ⟨⟨Or.inr ⟨rfl, by simp⟩, fun s hs => ?_, fun k hk => by simp at hk; omega⟩, by simp⟩
    simp at hs
    subst hs
    have at_ : ∀ i, (kAt p.keys i).size ≤ 40 := fun i => by
      rcases Nat.lt_or_ge i p.keys.length with q | q
      · rw [kAt_get q]; exact ks _ (List.getElem_mem q)
      · unfold kAt List.getD
        rw [List.getElem?_eq_none q]
        exact (by decide : (ByteArray.empty).size ≤ 40)
    unfold spK
    split
    · exact at_ _
    · split
      · exact at_ _
      · exact (by decide : (ByteArray.empty).size ≤ 40)
theorem left_rn {sh : List Pg} {p : Pg} (ks : ∀ s ∈ p.keys, s.size ≤ 40) (km : ∀ k ∈ p.kids, k < 18446744073709551616) (hp : p.leaf = false → p.kids.length = p.keys.length + 1) (hs : sh.length < 1000000) : Rn (leftR sh p).2 ∧ (leftR sh p).1.length ≤ sh.length + 2 := by
  unfold leftR
  cases l : p.leaf with
  | true =>
    rw [if_pos rfl]
    split
    · exact ⟨⟨Or.inl ⟨rfl, rfl⟩, fun s hs => by simp at hs, fun k hk => by simp at hk⟩, by simp⟩
    · exact halv_rn ks hs
  | false =>
    rw [if_neg (by simp)]
    split
    · have := hp l
      exact ⟨⟨Or.inr ⟨by simp only [List.length_nil]; omega, by simp only; omega⟩, fun s hs => by simp at hs, km⟩, by simp⟩
    · exact halv_rn ks hs
theorem shp_adm {p : Pg} (h : Shp p) (f : Fit p) : Adm p := ⟨Or.inr h, f⟩
theorem shp_stl {p : Pg} (h : Shp p) (f : Fit p) : Stl p := by
  have k := h.2.2
  rcases Nat.lt_or_ge p.kids.length 2 with q | q
  · exact Or.inr (Or.inl ⟨h.1, by omega⟩)
  · exact Or.inr (Or.inr ⟨Or.inr h, f, (fun e => by rw [h.1] at e; cases e), fun _ => q⟩)
/-- Runs settled one behind the other, in whatever order. -/
def Qf (σ : List Pg → Pg → List Pg × Run) (g : Nat → Pg × Nat) (q0 : List Pg × Run) {len : Nat} (pre : List { i : Nat // i < len }) : List Pg × Run := pre.foldl (fun q x => σ q.1 (withR (g x.1).1 (g x.1).2 q.2)) q0
theorem Qf_snoc (σ : List Pg → Pg → List Pg × Run) (g : Nat → Pg × Nat) (q0 : List Pg × Run) {len : Nat} (pre : List { i : Nat // i < len }) (x : { i : Nat // i < len }) : Qf σ g q0 (pre ++ [x]) = σ (Qf σ g q0 pre).1 (withR (g x.1).1 (g x.1).2 (Qf σ g q0 pre).2) := by simp [Qf]
theorem halv_grow (sh : List Pg) (p : Pg) : ∃ t, (halvR sh p).1 = sh ++ t := by
  unfold halvR
  split
  · exact ⟨_, rfl⟩
  · exact ⟨_, rfl⟩
theorem left_grow (sh : List Pg) (p : Pg) : ∃ t, (leftR sh p).1 = sh ++ t := by
  unfold leftR
  split
  · split
    · exact ⟨[], by simp⟩
    · exact halv_grow sh p
  · split
    · exact ⟨[], by simp⟩
    · exact halv_grow sh p
theorem with_ps {p : Pg} {i : Nat} {q : Run} (h : Ps p.kids) (r : Ps q.kids) : Ps (withR p i q).kids := fun k hk => by
  unfold withR at hk
  simp only at hk
  rcases List.mem_append.1 hk with hk | hk
  · rcases List.mem_append.1 hk with hk | hk
    · exact h k (List.mem_of_mem_take hk)
    · exact r k hk
  · exact h k (List.mem_of_mem_drop hk)
/-- How settling behaves, whichever it is. -/
structure Sg (σ : List Pg → Pg → List Pg × Run) : Prop where
  rn : ∀ (sh : List Pg) (p : Pg), (∀ s ∈ p.keys, s.size ≤ 40) → (∀ k ∈ p.kids, k < 18446744073709551616) → (p.leaf = false → p.kids.length = p.keys.length + 1) → sh.length < 1000000 → Rn (σ sh p).2 ∧ (σ sh p).1.length ≤ sh.length + 2
  grow : ∀ (sh : List Pg) (p : Pg), ∃ t, (σ sh p).1 = sh ++ t
theorem sg_halv : Sg halvR := ⟨fun sh p a _ _ d => halv_rn a d, halv_grow⟩
theorem sg_left : Sg leftR := ⟨fun sh p a b c d => left_rn a b c d, left_grow⟩
theorem qf_ok {σ : List Pg → Pg → List Pg × Run} (hσ : Sg σ) {g : Nat → Pg × Nat} {len : Nat} (hg : ∀ j, j < len → goodB (g j).1 = true ∧ (g j).1.leaf = false ∧ 1 ≤ (g j).1.keys.length ∧ (g j).1.keys.length ≤ 127 ∧ (g j).2 < (g j).1.kids.length ∧ (∀ k ∈ (g j).1.kids, k < 18446744073709551616)) :
    ∀ (pre : List { i : Nat // i < len }) (q : List Pg × Run), Rn q.2 → q.1.length + 2 * pre.length < 1000000 → Rn (Qf σ g q pre).2 ∧ (Qf σ g q pre).1.length ≤ q.1.length + 2 * pre.length ∧ ∃ t, (Qf σ g q pre).1 = q.1 ++ t
  | [], q, h, _ => ⟨h, Nat.le_refl _, [], by simp [Qf]⟩
  | x :: pre, q, h, hl => by
    obtain ⟨g1, g2, g3, g4, g5, g6⟩ := hg x.1 x.2
    obtain ⟨s1, s2, s3⟩ := with_shp g1 g2 g3 g4 g5 g6 h
    simp only [List.length_cons] at hl
    have r := hσ.rn q.1 (withR (g x.1).1 (g x.1).2 q.2) s3 s2.kid (fun _ => s1.2.2) (by omega)
    obtain ⟨t1, e1⟩ := hσ.grow q.1 (withR (g x.1).1 (g x.1).2 q.2)
    obtain ⟨i1, i2, t2, i3⟩ := qf_ok hσ hg pre (σ q.1 (withR (g x.1).1 (g x.1).2 q.2)) r.1 (by omega)
    refine ⟨i1, ?_, t1 ++ t2, ?_⟩
    · have : (Qf σ g q (x :: pre)).1.length ≤ (σ q.1 (withR (g x.1).1 (g x.1).2 q.2)).1.length + 2 * pre.length := i2
      simp only [List.length_cons]
      omega
    · show (Qf σ g (σ q.1 (withR (g x.1).1 (g x.1).2 q.2)) pre).1 = _
      rw [i3, e1, List.append_assoc]
/-- The root's page, where the root is split. -/
theorem root_adm {sh : List Pg} {r n : Nat} {M : List It} {f : Nat} {q : List Pg × Run} (h : QR sh r n M f q) (hs : sh.length + 2 * r < 900000) : q.2.kids.length ≤ 2 ∧ q.1.length ≤ 900000 ∧ (1 < q.2.kids.length → Adm ⟨false, q.2.keys, [], q.2.kids⟩ ∧ Ps q.2.kids) := by
  obtain ⟨t, et, tl⟩ := h.grow
  have l1 : q.1.length ≤ 900000 := by rw [et, List.length_append]; omega
  rcases h.cs with ⟨e, _⟩ | ⟨a, _, e, _⟩ | ⟨x, a, b, L1, L2, f1, f2, e, _, t1, t2, s1, s2, hx, _⟩
  · rw [e]; exact ⟨by simp, l1, fun q => by simp at q⟩
  · rw [e]; exact ⟨by simp, l1, fun q => by simp at q⟩
  · have n1 := t1.num
    have n2 := t2.num
    rw [e]
    refine ⟨by simp, l1, fun _ => ?_⟩
    have bt : Bt (Tr q.1 r) [x] [⟨a, L1, f1⟩, ⟨b, L2, f2⟩] := by
      refine ⟨rfl, fun j s hj => ?_, fun j s hj h0 y hy => ?_, fun j s hj hlt y hy => ?_⟩
      · rcases j with _ | _ | j
        · simp at hj; subst hj; exact ⟨t1, t1.ne⟩
        · simp at hj; subst hj; exact ⟨t2, t2.ne⟩
        · simp at hj
      · rcases j with _ | _ | j
        · omega
        · simp at hj; subst hj; exact s2 y hy
        · simp at hj
      · rcases j with _ | j
        · simp at hj; subst hj; exact s1 y hy
        · simp at hlt
    have gg := good_bt bt (fun i hi => by
      have : i = 0 := by simpa using hi
      subst this
      exact hx)
    refine ⟨⟨Or.inl gg, fit_of gg (by simp) (fun q => by simp at q) (fun k hk => ?_)⟩, fun k hk => ?_⟩
    · simp at hk; omega
    · simp at hk; omega

end Go.Proofs.Ythdjghmipepppaa

