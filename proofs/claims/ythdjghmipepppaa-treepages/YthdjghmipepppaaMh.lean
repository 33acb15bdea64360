/- The walk over package page: Split. The walk over package page: Split. -/
import Derived.Test.YthdjghmipepppaaMg
namespace Go.Proofs.Ythdjghmipepppaa
open Go.RowKit
set_option linter.unusedVariables false
set_option linter.unusedSimpArgs false

set_option maxRecDepth 100000 in
set_option maxHeartbeats 4000000 in
theorem Split_leaf (v : Value) (p : Pg) (w : World) (h : Pv w v p) (f : Fit p) (hl : p.leaf = true) (h2n : 2 ≤ p.keys.length) :
    Calls Try.prog 65 #[v] w fun e w' => NewS w w' e (lfA p) (kAt p.keys (mid (szs p.keys p.vals))) (lfB p) := by
  have KS : Hid _ := fun W hW => splitLeaf_any v p W hW f hl h2n
  obtain ⟨ka, kn, kc, va, vn, vc, ia, im, ic, rfl, h1, h2, h3⟩ := h.ex
  have l1 := h1.slen
  rw [hl] at KS ⊢
  have n2 : (2 : Int) ≤ (kn : Int) := by omega
  have H : Hid (∀ W, Below w.heap.size w W → Pv W _ p) := fun W b => h.below b
  rw [hl] at H
  generalize lfA p = PA at *
  generalize lfB p = PB at *
  generalize kAt p.keys (mid (szs p.keys p.vals)) = key at *
  clear l1
  have C0 : Hid (Sp w (.bool true) (.slice ka kn kc) (.slice va vn vc) (.slice ia im ic) (((w.alloc (.cells #[.bool true, .slice ka kn kc, .slice va vn vc, .slice ia im ic] 54)).alloc (.cells #[.bool false, (.slice none 0 0), (.slice none 0 0), (.slice none 0 0)] 54)).alloc (.cells #[.bool false, (.slice none 0 0), (.slice none 0 0), (.slice none 0 0)] 54))) := Sp.new w _ _ _ _ _ _ _
  clear h f h1 h2 h3
  go_enter Try.func65, Try.ntmps65
  go_upto_region 1 with fail
  generalize ((w.alloc (.cells #[.bool true, .slice ka kn kc, .slice va vn vc, .slice ia im ic] 54)).alloc (.cells #[.bool false, (.slice none 0 0), (.slice none 0 0), (.slice none 0 0)] 54)).alloc (.cells #[.bool false, (.slice none 0 0), (.slice none 0 0), (.slice none 0 0)] 54) = W0 at *
  have x0 := C0.out.box.a0
  have x1 := C0.out.box.a1
  have x2 := C0.out.box.a2
  have x3 := C0.out.box.a3
  go_wp2_with fail
  refine Calls.mono (KS.out W0 (H.out W0 C0.out.bel)) ?_
  rintro e w1 ⟨v1, u1, rfl, P1', P2', of, b1⟩
  have Q1 : Hid _ := C0.out.next b1
  have OF : Hid _ := of
  have sz := C0.out.sz
  obtain ⟨a1, m1, d1, a2, m2, d2, a3, m3, d3, rfl, _, _, _⟩ := P1'.ex
  obtain ⟨a4, m4, d4, a5, m5, d5, a6, m6, d6, rfl, _, _, _⟩ := P2'.ex
  have P1 : Hid _ := P1'
  have P2 : Hid _ := P2'
  clear P1' P2' of KS
  have g0 := Q1.out.ra.a0
  have g1 := Q1.out.ra.a1
  have g2 := Q1.out.ra.a2
  have g3 := Q1.out.ra.a3
  have g4 : w1.cell? ⟨w.heap.size + 1 + 1, 0, none⟩ = _ := Q1.out.rb.a0
  have g5 : w1.cell? ⟨w.heap.size + 1 + 1, 1, none⟩ = _ := Q1.out.rb.a1
  have g6 : w1.cell? ⟨w.heap.size + 1 + 1, 2, none⟩ = _ := Q1.out.rb.a2
  have g7 : w1.cell? ⟨w.heap.size + 1 + 1, 3, none⟩ = _ := Q1.out.rb.a3
  have ga := Q1.out.fa
  have gb : ∀ o, w1.frozen? ⟨w.heap.size + 1 + 1, o, none⟩ = false := Q1.out.fb
  have X : Hid _ := Q1.out.fin (.bool PA.leaf) (.slice a1 m1 d1) (.slice a2 m2 d2) (.slice a3 m3 d3) (.bool PB.leaf) (.slice a4 m4 d4) (.slice a5 m5 d5) (.slice a6 m6 d6)
  have PA' : Hid _ := X.out.pv P1.out (OF.out _ (by omega)).1 (OF.out _ (by omega)).1
  have PB' : Hid (Pv ((((((((w1.setCell ⟨w.heap.size + 1, 0, none⟩ (.bool PA.leaf)).setCell ⟨w.heap.size + 1, 1, none⟩ (.slice a1 m1 d1)).setCell ⟨w.heap.size + 1, 2, none⟩ (.slice a2 m2 d2)).setCell ⟨w.heap.size + 1, 3, none⟩ (.slice a3 m3 d3)).setCell ⟨w.heap.size + 1 + 1, 0, none⟩ (.bool PB.leaf)).setCell ⟨w.heap.size + 1 + 1, 1, none⟩ (.slice a4 m4 d4)).setCell ⟨w.heap.size + 1 + 1, 2, none⟩ (.slice a5 m5 d5)).setCell ⟨w.heap.size + 1 + 1, 3, none⟩ (.slice a6 m6 d6)) (.agg #[.bool PB.leaf, .slice a4 m4 d4, .slice a5 m5 d5, .slice a6 m6 d6]) PB) := X.out.pv P2.out (OF.out _ (by omega)).2 (OF.out _ (by omega)).2
  go_wp2
  generalize ((((((((w1.setCell ⟨w.heap.size + 1, 0, none⟩ (.bool PA.leaf)).setCell ⟨w.heap.size + 1, 1, none⟩ (.slice a1 m1 d1)).setCell ⟨w.heap.size + 1, 2, none⟩ (.slice a2 m2 d2)).setCell ⟨w.heap.size + 1, 3, none⟩ (.slice a3 m3 d3)).setCell ⟨w.heap.size + 1 + 1, 0, none⟩ (.bool PB.leaf)).setCell ⟨w.heap.size + 1 + 1, 1, none⟩ (.slice a4 m4 d4)).setCell ⟨w.heap.size + 1 + 1, 2, none⟩ (.slice a5 m5 d5)).setCell ⟨w.heap.size + 1 + 1, 3, none⟩ (.slice a6 m6 d6)) = W8 at *
  have B8 : Hid _ := X.out.bel
  obtain ⟨_, ⟨t0, t1, t2, t3⟩, ⟨t4, t5, t6, t7⟩, _, _⟩ := X.out
  exact bodyPost_ret (v := .tuple #[.agg #[.bool PA.leaf, .slice a1 m1 d1, .slice a2 m2 d2, .slice a3 m3 d3], .string key, .agg #[.bool PB.leaf, .slice a4 m4 d4, .slice a5 m5 d5, .slice a6 m6 d6]]) (by simp [results, Try.results65, go_sem, t0, t1, t2, t3, t4, t5, t6, t7]) rfl ⟨_, _, rfl, PA'.out, PB'.out, fun r hr => OF.out r (by omega), B8.out⟩


end Go.Proofs.Ythdjghmipepppaa

namespace Go.Proofs.Ythdjghmipepppaa
open Go.RowKit
set_option linter.unusedVariables false
set_option linter.unusedSimpArgs false

set_option maxRecDepth 100000 in
set_option maxHeartbeats 4000000 in
theorem Split_small (v : Value) (p : Pg) (w : World) (h : Pv w v p) (f : Bd p) (hs : p.keys.length < 2 ∨ p.leaf = false ∧ p.keys.length < 3) :
    Calls Try.prog 65 #[v] w fun e w' => NewS w w' e p ByteArray.empty zeroP := by
  have KS : Hid _ := fun W hW => copied_off v p W hW f
  obtain ⟨ka, kn, kc, va, vn, vc, ia, im, ic, rfl, h1, h2, h3⟩ := h.ex
  have l1 := h1.slen
  have H : Hid (∀ W, Below w.heap.size w W → Pv W _ p) := fun W b => h.below b
  have PZ : Hid (∀ W, Pv W (.agg #[.bool false, .slice none 0 0, .slice none 0 0, .slice none 0 0]) zeroP) := fun W => Pv.mk' (Sl.empty _) (Sl.empty _) (Sl.empty _) (fun k hk => by simp at hk)
  generalize zeroP = PB at *
  rw [l1] at hs
  generalize hlf : p.leaf = lf at *
  have PL : Hid _ := hlf
  clear l1 hlf
  have hs' : lf = true ∧ (decide ((2 : Int) ≤ (kn : Int)) = false) ∨ lf = false ∧ (decide ((3 : Int) ≤ (kn : Int)) = false) := by
    cases lf with
    | true => left; exact ⟨rfl, decide_eq_false (hs.elim (fun q => by omega) (fun q => by simp at q))⟩
    | false => right; exact ⟨rfl, decide_eq_false (by omega)⟩
  clear hs
  rcases hs' with ⟨rfl, hd⟩ | ⟨rfl, hd⟩
  · have C0 : Hid (Sp w (.bool true) (.slice ka kn kc) (.slice va vn vc) (.slice ia im ic) (((w.alloc (.cells #[.bool true, .slice ka kn kc, .slice va vn vc, .slice ia im ic] 54)).alloc (.cells #[.bool false, (.slice none 0 0), (.slice none 0 0), (.slice none 0 0)] 54)).alloc (.cells #[.bool false, (.slice none 0 0), (.slice none 0 0), (.slice none 0 0)] 54))) := Sp.new w _ _ _ _ _ _ _
    clear h f h1 h2 h3
    go_enter Try.func65, Try.ntmps65
    go_upto_region 1 with fail
    generalize ((w.alloc (.cells #[.bool true, .slice ka kn kc, .slice va vn vc, .slice ia im ic] 54)).alloc (.cells #[.bool false, (.slice none 0 0), (.slice none 0 0), (.slice none 0 0)] 54)).alloc (.cells #[.bool false, (.slice none 0 0), (.slice none 0 0), (.slice none 0 0)] 54) = W0 at *
    have x0 := C0.out.box.a0
    have x1 := C0.out.box.a1
    have x2 := C0.out.box.a2
    have x3 := C0.out.box.a3
    go_wp2_with fail
    refine Calls.mono (KS.out W0 (H.out W0 C0.out.bel)) ?_
    rintro e w1 ⟨v1, rfl, P1', of, b1⟩
    have Q1 : Hid _ := C0.out.next b1
    have OF : Hid (∀ r, r < W0.heap.size → Off v1 r ∧ Off (.agg #[.bool false, .slice none 0 0, .slice none 0 0, .slice none 0 0]) r) := fun r hr => ⟨of r hr, Off.mk (fun x hx => by cases hx) (fun x hx => by cases hx) (fun x hx => by cases hx)⟩
    have sz := C0.out.sz
    obtain ⟨a1, m1, d1, a2, m2, d2, a3, m3, d3, rfl, _, _, _⟩ := P1'.ex
    have P1 : Hid _ := P1'
    rw [PL.out] at P1 OF ⊢
    clear P1' of KS
    have g0 := Q1.out.ra.a0
    have g1 := Q1.out.ra.a1
    have g2 := Q1.out.ra.a2
    have g3 := Q1.out.ra.a3
    have g4 : w1.cell? ⟨w.heap.size + 1 + 1, 0, none⟩ = _ := Q1.out.rb.a0
    have g5 : w1.cell? ⟨w.heap.size + 1 + 1, 1, none⟩ = _ := Q1.out.rb.a1
    have g6 : w1.cell? ⟨w.heap.size + 1 + 1, 2, none⟩ = _ := Q1.out.rb.a2
    have g7 : w1.cell? ⟨w.heap.size + 1 + 1, 3, none⟩ = _ := Q1.out.rb.a3
    have ga := Q1.out.fa
    have gb : ∀ o, w1.frozen? ⟨w.heap.size + 1 + 1, o, none⟩ = false := Q1.out.fb
    have X : Hid _ := Q1.out.fin (.bool true) (.slice a1 m1 d1) (.slice a2 m2 d2) (.slice a3 m3 d3) (.bool false) (.slice none 0 0) (.slice none 0 0) (.slice none 0 0)
    have PA' : Hid _ := X.out.pv P1.out (OF.out _ (by omega)).1 (OF.out _ (by omega)).1
    have PB' : Hid (Pv ((((((((w1.setCell ⟨w.heap.size + 1, 0, none⟩ (.bool true)).setCell ⟨w.heap.size + 1, 1, none⟩ (.slice a1 m1 d1)).setCell ⟨w.heap.size + 1, 2, none⟩ (.slice a2 m2 d2)).setCell ⟨w.heap.size + 1, 3, none⟩ (.slice a3 m3 d3)).setCell ⟨w.heap.size + 1 + 1, 0, none⟩ (.bool false)).setCell ⟨w.heap.size + 1 + 1, 1, none⟩ (.slice none 0 0)).setCell ⟨w.heap.size + 1 + 1, 2, none⟩ (.slice none 0 0)).setCell ⟨w.heap.size + 1 + 1, 3, none⟩ (.slice none 0 0)) (.agg #[.bool false, .slice none 0 0, .slice none 0 0, .slice none 0 0]) PB) := PZ.out _
    go_wp2
    generalize ((((((((w1.setCell ⟨w.heap.size + 1, 0, none⟩ (.bool true)).setCell ⟨w.heap.size + 1, 1, none⟩ (.slice a1 m1 d1)).setCell ⟨w.heap.size + 1, 2, none⟩ (.slice a2 m2 d2)).setCell ⟨w.heap.size + 1, 3, none⟩ (.slice a3 m3 d3)).setCell ⟨w.heap.size + 1 + 1, 0, none⟩ (.bool false)).setCell ⟨w.heap.size + 1 + 1, 1, none⟩ (.slice none 0 0)).setCell ⟨w.heap.size + 1 + 1, 2, none⟩ (.slice none 0 0)).setCell ⟨w.heap.size + 1 + 1, 3, none⟩ (.slice none 0 0)) = W8 at *
    have B8 : Hid _ := X.out.bel
    obtain ⟨_, ⟨t0, t1, t2, t3⟩, ⟨t4, t5, t6, t7⟩, _, _⟩ := X.out
    exact bodyPost_ret (v := .tuple #[.agg #[.bool true, .slice a1 m1 d1, .slice a2 m2 d2, .slice a3 m3 d3], .string ⟨#[]⟩, .agg #[.bool false, .slice none 0 0, .slice none 0 0, .slice none 0 0]]) (by simp [results, Try.results65, go_sem, t0, t1, t2, t3, t4, t5, t6, t7]) rfl ⟨_, _, rfl, PA'.out, PB'.out, fun r hr => OF.out r (by omega), B8.out⟩

  · have C0 : Hid (Sp w (.bool false) (.slice ka kn kc) (.slice va vn vc) (.slice ia im ic) (((w.alloc (.cells #[.bool false, .slice ka kn kc, .slice va vn vc, .slice ia im ic] 54)).alloc (.cells #[.bool false, (.slice none 0 0), (.slice none 0 0), (.slice none 0 0)] 54)).alloc (.cells #[.bool false, (.slice none 0 0), (.slice none 0 0), (.slice none 0 0)] 54))) := Sp.new w _ _ _ _ _ _ _
    clear h f h1 h2 h3
    go_enter Try.func65, Try.ntmps65
    go_upto_region 1 with fail
    generalize ((w.alloc (.cells #[.bool false, .slice ka kn kc, .slice va vn vc, .slice ia im ic] 54)).alloc (.cells #[.bool false, (.slice none 0 0), (.slice none 0 0), (.slice none 0 0)] 54)).alloc (.cells #[.bool false, (.slice none 0 0), (.slice none 0 0), (.slice none 0 0)] 54) = W0 at *
    have x0 := C0.out.box.a0
    have x1 := C0.out.box.a1
    have x2 := C0.out.box.a2
    have x3 := C0.out.box.a3
    go_wp2_with fail
    refine Calls.mono (KS.out W0 (H.out W0 C0.out.bel)) ?_
    rintro e w1 ⟨v1, rfl, P1', of, b1⟩
    have Q1 : Hid _ := C0.out.next b1
    have OF : Hid (∀ r, r < W0.heap.size → Off v1 r ∧ Off (.agg #[.bool false, .slice none 0 0, .slice none 0 0, .slice none 0 0]) r) := fun r hr => ⟨of r hr, Off.mk (fun x hx => by cases hx) (fun x hx => by cases hx) (fun x hx => by cases hx)⟩
    have sz := C0.out.sz
    obtain ⟨a1, m1, d1, a2, m2, d2, a3, m3, d3, rfl, _, _, _⟩ := P1'.ex
    have P1 : Hid _ := P1'
    rw [PL.out] at P1 OF ⊢
    clear P1' of KS
    have g0 := Q1.out.ra.a0
    have g1 := Q1.out.ra.a1
    have g2 := Q1.out.ra.a2
    have g3 := Q1.out.ra.a3
    have g4 : w1.cell? ⟨w.heap.size + 1 + 1, 0, none⟩ = _ := Q1.out.rb.a0
    have g5 : w1.cell? ⟨w.heap.size + 1 + 1, 1, none⟩ = _ := Q1.out.rb.a1
    have g6 : w1.cell? ⟨w.heap.size + 1 + 1, 2, none⟩ = _ := Q1.out.rb.a2
    have g7 : w1.cell? ⟨w.heap.size + 1 + 1, 3, none⟩ = _ := Q1.out.rb.a3
    have ga := Q1.out.fa
    have gb : ∀ o, w1.frozen? ⟨w.heap.size + 1 + 1, o, none⟩ = false := Q1.out.fb
    have X : Hid _ := Q1.out.fin (.bool false) (.slice a1 m1 d1) (.slice a2 m2 d2) (.slice a3 m3 d3) (.bool false) (.slice none 0 0) (.slice none 0 0) (.slice none 0 0)
    have PA' : Hid _ := X.out.pv P1.out (OF.out _ (by omega)).1 (OF.out _ (by omega)).1
    have PB' : Hid (Pv ((((((((w1.setCell ⟨w.heap.size + 1, 0, none⟩ (.bool false)).setCell ⟨w.heap.size + 1, 1, none⟩ (.slice a1 m1 d1)).setCell ⟨w.heap.size + 1, 2, none⟩ (.slice a2 m2 d2)).setCell ⟨w.heap.size + 1, 3, none⟩ (.slice a3 m3 d3)).setCell ⟨w.heap.size + 1 + 1, 0, none⟩ (.bool false)).setCell ⟨w.heap.size + 1 + 1, 1, none⟩ (.slice none 0 0)).setCell ⟨w.heap.size + 1 + 1, 2, none⟩ (.slice none 0 0)).setCell ⟨w.heap.size + 1 + 1, 3, none⟩ (.slice none 0 0)) (.agg #[.bool false, .slice none 0 0, .slice none 0 0, .slice none 0 0]) PB) := PZ.out _
    go_wp2
    generalize ((((((((w1.setCell ⟨w.heap.size + 1, 0, none⟩ (.bool false)).setCell ⟨w.heap.size + 1, 1, none⟩ (.slice a1 m1 d1)).setCell ⟨w.heap.size + 1, 2, none⟩ (.slice a2 m2 d2)).setCell ⟨w.heap.size + 1, 3, none⟩ (.slice a3 m3 d3)).setCell ⟨w.heap.size + 1 + 1, 0, none⟩ (.bool false)).setCell ⟨w.heap.size + 1 + 1, 1, none⟩ (.slice none 0 0)).setCell ⟨w.heap.size + 1 + 1, 2, none⟩ (.slice none 0 0)).setCell ⟨w.heap.size + 1 + 1, 3, none⟩ (.slice none 0 0)) = W8 at *
    have B8 : Hid _ := X.out.bel
    obtain ⟨_, ⟨t0, t1, t2, t3⟩, ⟨t4, t5, t6, t7⟩, _, _⟩ := X.out
    exact bodyPost_ret (v := .tuple #[.agg #[.bool false, .slice a1 m1 d1, .slice a2 m2 d2, .slice a3 m3 d3], .string ⟨#[]⟩, .agg #[.bool false, .slice none 0 0, .slice none 0 0, .slice none 0 0]]) (by simp [results, Try.results65, go_sem, t0, t1, t2, t3, t4, t5, t6, t7]) rfl ⟨_, _, rfl, PA'.out, PB'.out, fun r hr => OF.out r (by omega), B8.out⟩

end Go.Proofs.Ythdjghmipepppaa

