/- The walks over the law's halt and awake. -/
import Derived.Test.YtjkbiglnpoeddaaDoorVfz
namespace Go.Proofs.YtjkbiglnpoeddaaDoor.Vf
open Go.RowKit
set_option linter.unusedVariables false
set_option linter.unusedSimpArgs false

theorem ok_small {x : Int} (h : 0 ≤ x) (h2 : x ≤ 1000000) : cI.ok x := ⟨by omega, by omega⟩
theorem okN {x : Ins} (h : (0 ≤ x.1 ∧ x.1 ≤ 1000000) ∧ (0 ≤ x.2.1 ∧ x.2.1 ≤ 1000000) ∧ (0 ≤ x.2.2.1 ∧ x.2.2.1 ≤ 1000000) ∧ (0 ≤ x.2.2.2 ∧ x.2.2.2 ≤ 1000000)) : cN.ok x :=
  ⟨ok_small h.1.1 h.1.2, ok_small h.2.1.1 h.2.1.2, ok_small h.2.2.1.1 h.2.2.1.2, ok_small h.2.2.2.1 h.2.2.2.2⟩
def fN4 (x : Ins) : List Value := [.int .i64 x.1, .int .i64 x.2.1, .int .i64 x.2.2.1, .int .i64 x.2.2.2]
def smN (x : Ins) : Bool := decide ((0 ≤ x.1 ∧ x.1 ≤ 1000000) ∧ (0 ≤ x.2.1 ∧ x.2.1 ≤ 1000000) ∧ (0 ≤ x.2.2.1 ∧ x.2.2.1 ≤ 1000000) ∧ (0 ≤ x.2.2.2 ∧ x.2.2.2 ≤ 1000000))
/-- Instructions that were just built. -/
theorem vwN (w : World) (T : TypeId) (co : List Ins) (h : co.all smN = true) (h0 : 0 < co.length) : Vw aN 4 (w.alloc (.cells (co.flatMap fN4).toArray T)) (some ⟨w.heap.size, 0, none⟩) co.length co :=
  ⟨rfl, w.heap.size, 0, fun _ => rfl, fun i x hx => by
    have hc : ∀ j, j < 4 → (co.flatMap fN4)[i * 4 + j]? = (fN4 x)[j]? := fun j hj => flat_at (k := 4) (f := fN4) (fun _ => rfl) co i x j hx hj
    have hh : ∀ j u, j < 4 → (fN4 x)[j]? = some u → (w.alloc (.cells (co.flatMap fN4).toArray T)).cell? ⟨w.heap.size, 0 + i * 4 + j, none⟩ = some u := fun j u hj hu => by
      rw [Nat.zero_add]
      exact cells_new w (co.flatMap fN4) T (i * 4 + j) u ((hc j hj).trans hu)
    have ok := List.all_eq_true.1 h x (List.mem_of_getElem? hx)
    exact ⟨hh 0 _ (by omega) rfl, hh 1 _ (by omega) rfl, hh 2 _ (by omega) rfl, hh 3 _ (by omega) rfl, okN (by unfold smN at ok; exact of_decide_eq_true ok)⟩⟩
theorem vwN_kx {w w' : World} {g m : Nat} {xs : List Ins} {bs : List Nat} (h : Vw aN 4 w (some ⟨g, 0, none⟩) m xs) (k : Kx bs w w') (hg : g ∉ bs) : Vw aN 4 w' (some ⟨g, 0, none⟩) m xs := by
  obtain ⟨g2, o, h1, h2⟩ := h.at_
  refine ⟨h.len, g2, o, h1, fun i x hx => ?_⟩
  have hm : 0 < m := by have := (List.getElem?_eq_some_iff.1 hx).1; rw [h.len] at this; omega
  have e := h1 hm
  injection e with e
  injection e with e _ _
  subst e
  obtain ⟨a, b, c, d, f⟩ := h2 i x hx
  exact ⟨k.cell hg a, k.cell hg b, k.cell hg c, k.cell hg d, f⟩
def pgS (a2 a3 a4 a5 a6 : Option Addr) (m2 m3 m4 m5 m6 c2 c3 c4 c5 c6 : Nat) : S7 := S7.mk none 0 0 none 0 0 a2 m2 c2 a3 m3 c3 a4 m4 c4 a5 m5 c5 a6 m6 c6
set_option maxRecDepth 100000 in
set_option maxHeartbeats 8000000 in
theorem halt_any (w : World) : Calls Tryd.prog 7 #[] w fun e w' => ∃ g, e = .returned (.agg #[.slice none 0 0, .slice none 0 0, .slice none 0 0, .slice none 0 0, .slice none 0 0, .slice none 0 0, .slice (some ⟨g, 0, none⟩) 1 1]) ∧ Vw aN 4 w' (some ⟨g, 0, none⟩) 1 [(23, 0, 0, 0)] ∧ Below w.heap.size w w' := by
  have X1 := hid (Bx.new w #[.slice none 0 0, .slice none 0 0, .slice none 0 0, .slice none 0 0, .slice none 0 0, .slice none 0 0, .slice none 0 0] 35 (by decide))
  have B1 := hid (allocB w (.cells #[.slice none 0 0, .slice none 0 0, .slice none 0 0, .slice none 0 0, .slice none 0 0, .slice none 0 0, .slice none 0 0] 35))
  obtain ⟨r, hr⟩ : ∃ r, r = w.heap.size := ⟨_, rfl⟩
  have WR := hid hr
  rw [← hr] at X1
  clear hr
  go_enter Tryd.func7, Tryd.ntmps7
  go_upto_region 1 with fail
  rw [← WR.out]
  generalize World.alloc w _ = w1 at *
  have A2 := hid (allocB w1 (.cells #[.int .i64 23, .int .i64 0, .int .i64 0, .int .i64 0] 37))
  have VN := hid (show Vw aN 4 (w1.alloc (.cells #[.int .i64 23, .int .i64 0, .int .i64 0, .int .i64 0] 37)) (some ⟨w1.heap.size, 0, none⟩) 1 [(23, 0, 0, 0)] from vwN w1 _ [(23, 0, 0, 0)] (by decide) (by decide))
  have X2 := hid (Bx.next X1.out A2.out)
  have c0 : (w1.alloc (.cells #[.int .i64 23, .int .i64 0, .int .i64 0, .int .i64 0] 37)).cell? ⟨r, 0, none⟩ = some (.slice none 0 0) := X2.out.cell 0 _ rfl
  have c1 : (w1.alloc (.cells #[.int .i64 23, .int .i64 0, .int .i64 0, .int .i64 0] 37)).cell? ⟨r, 1, none⟩ = some (.slice none 0 0) := X2.out.cell 1 _ rfl
  have c2 : (w1.alloc (.cells #[.int .i64 23, .int .i64 0, .int .i64 0, .int .i64 0] 37)).cell? ⟨r, 2, none⟩ = some (.slice none 0 0) := X2.out.cell 2 _ rfl
  have c3 : (w1.alloc (.cells #[.int .i64 23, .int .i64 0, .int .i64 0, .int .i64 0] 37)).cell? ⟨r, 3, none⟩ = some (.slice none 0 0) := X2.out.cell 3 _ rfl
  have c4 : (w1.alloc (.cells #[.int .i64 23, .int .i64 0, .int .i64 0, .int .i64 0] 37)).cell? ⟨r, 4, none⟩ = some (.slice none 0 0) := X2.out.cell 4 _ rfl
  have c5 : (w1.alloc (.cells #[.int .i64 23, .int .i64 0, .int .i64 0, .int .i64 0] 37)).cell? ⟨r, 5, none⟩ = some (.slice none 0 0) := X2.out.cell 5 _ rfl
  have c6 : (w1.alloc (.cells #[.int .i64 23, .int .i64 0, .int .i64 0, .int .i64 0] 37)).cell? ⟨r, 6, none⟩ = some (.slice none 0 0) := X2.out.cell 6 _ rfl
  have fz := Bx.fz2 X2.out
  have B2 := hid (nxB B1.out A2.out)
  have XF := hid (show Bx ((((((((w1.alloc (.cells #[.int .i64 23, .int .i64 0, .int .i64 0, .int .i64 0] 37)).setCell ⟨r, 0, none⟩ (.slice none 0 0)).setCell ⟨r, 1, none⟩ (.slice none 0 0)).setCell ⟨r, 2, none⟩ (.slice none 0 0)).setCell ⟨r, 3, none⟩ (.slice none 0 0)).setCell ⟨r, 4, none⟩ (.slice none 0 0)).setCell ⟨r, 5, none⟩ (.slice none 0 0)).setCell ⟨r, 6, none⟩ (.slice (some ⟨w1.heap.size, 0, none⟩) 1 1)) r 35 #[.slice none 0 0, .slice none 0 0, .slice none 0 0, .slice none 0 0, .slice none 0 0, .slice none 0 0, .slice (some ⟨w1.heap.size, 0, none⟩) 1 1] from (Bx.set (Bx.set (Bx.set (Bx.set (Bx.set (Bx.set (Bx.set X2.out 0 (.slice none 0 0)) 1 (.slice none 0 0)) 2 (.slice none 0 0)) 3 (.slice none 0 0)) 4 (.slice none 0 0)) 5 (.slice none 0 0)) 6 (.slice (some ⟨w1.heap.size, 0, none⟩) 1 1)))
  have KF := hid (show Kx [r] w1 ((((((((w1.alloc (.cells #[.int .i64 23, .int .i64 0, .int .i64 0, .int .i64 0] 37)).setCell ⟨r, 0, none⟩ (.slice none 0 0)).setCell ⟨r, 1, none⟩ (.slice none 0 0)).setCell ⟨r, 2, none⟩ (.slice none 0 0)).setCell ⟨r, 3, none⟩ (.slice none 0 0)).setCell ⟨r, 4, none⟩ (.slice none 0 0)).setCell ⟨r, 5, none⟩ (.slice none 0 0)).setCell ⟨r, 6, none⟩ (.slice (some ⟨w1.heap.size, 0, none⟩) 1 1)) from (((((((Kx.of [r] A2.out).set (p := r) (i := 0) (.slice none 0 0) (by simp)).set (p := r) (i := 1) (.slice none 0 0) (by simp)).set (p := r) (i := 2) (.slice none 0 0) (by simp)).set (p := r) (i := 3) (.slice none 0 0) (by simp)).set (p := r) (i := 4) (.slice none 0 0) (by simp)).set (p := r) (i := 5) (.slice none 0 0) (by simp)).set (p := r) (i := 6) (.slice (some ⟨w1.heap.size, 0, none⟩) 1 1) (by simp))
  have GR := hid (show w1.heap.size ∉ [r] from by simp; have := Bx.lt X1.out; omega)
  have K2 := hid (show Kx [r] (w1.alloc (.cells #[.int .i64 23, .int .i64 0, .int .i64 0, .int .i64 0] 37)) ((((((((w1.alloc (.cells #[.int .i64 23, .int .i64 0, .int .i64 0, .int .i64 0] 37)).setCell ⟨r, 0, none⟩ (.slice none 0 0)).setCell ⟨r, 1, none⟩ (.slice none 0 0)).setCell ⟨r, 2, none⟩ (.slice none 0 0)).setCell ⟨r, 3, none⟩ (.slice none 0 0)).setCell ⟨r, 4, none⟩ (.slice none 0 0)).setCell ⟨r, 5, none⟩ (.slice none 0 0)).setCell ⟨r, 6, none⟩ (.slice (some ⟨w1.heap.size, 0, none⟩) 1 1)) from (((((((Kx.refl [r] _).set (p := r) (i := 0) (.slice none 0 0) (by simp)).set (p := r) (i := 1) (.slice none 0 0) (by simp)).set (p := r) (i := 2) (.slice none 0 0) (by simp)).set (p := r) (i := 3) (.slice none 0 0) (by simp)).set (p := r) (i := 4) (.slice none 0 0) (by simp)).set (p := r) (i := 5) (.slice none 0 0) (by simp)).set (p := r) (i := 6) (.slice (some ⟨w1.heap.size, 0, none⟩) 1 1) (by simp))
  have VF := hid (vwN_kx VN.out K2.out GR.out)
  have RL := hid (show w.heap.size ≤ r from by rw [WR.out]; exact Nat.le_refl _)
  go_wp2_with fail
  clear fz c0 c1 c2 c3 c4 c5 c6 X2 X1 K2 VN
  generalize (World.setCell (World.setCell (World.setCell (World.setCell (World.setCell (World.setCell (World.setCell _ _ _) _ _) _ _) _ _) _ _) _ _) _ _) = wf at *
  have y0 := XF.out.cell 0 _ rfl
  have y1 := XF.out.cell 1 _ rfl
  have y2 := XF.out.cell 2 _ rfl
  have y3 := XF.out.cell 3 _ rfl
  have y4 := XF.out.cell 4 _ rfl
  have y5 := XF.out.cell 5 _ rfl
  have y6 := XF.out.cell 6 _ rfl
  try simp only [Exit.inBlock, Exit.then]
  refine bodyPost_ret (v := .agg #[.slice none 0 0, .slice none 0 0, .slice none 0 0, .slice none 0 0, .slice none 0 0, .slice none 0 0, .slice (some ⟨w1.heap.size, 0, none⟩) 1 1]) (by simp [results, Tryd.results7, go_sem, y0, y1, y2, y3, y4, y5, y6]; try rfl) rfl ?_
  exact ⟨_, rfl, VF.out, ((Kx.of [r] B1.out).trans KF.out).bel (Nat.le_refl _) (fun i hi => by simp at hi; subst hi; exact RL.out)⟩

end Go.Proofs.YtjkbiglnpoeddaaDoor.Vf
