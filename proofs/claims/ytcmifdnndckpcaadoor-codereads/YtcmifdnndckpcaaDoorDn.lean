/- The walk over code's readProgram. -/
import Derived.Test.YtcmifdnndckpcaaDoorDm
namespace Go.Proofs.YtcmifdnndckpcaaDoor
open Go.RowKit
set_option linter.unusedVariables false
set_option linter.unusedSimpArgs false

set_option maxRecDepth 100000 in
set_option maxHeartbeats 8000000 in
theorem code_readProgram_any {w : World} {p q : Nat} {s : Sr} (h : Rd w p q s.2 s.1) (hn : s.1.length ≤ 15000000) (hq : q < w.heap.size) :
    Calls Tryd.prog 19 #[.pointer (some ⟨p, 0, none⟩)] w fun e w' => ∃ v, e = .returned v ∧ Pw w' v ((cProg false).rd s).1 ∧ Rp w w' p q ((cProg false).rd s).2 := by
  rw [cProg_1, cProg_2]
  have hp := h.lt
  have HB := hid (show Bys s.1 from by obtain ⟨a, n, c, _, y, _⟩ := h.ex; exact y.ok)
  have R0 := hid (show Rp w (w.alloc (.cells #[.slice none 0 0, .slice none 0 0, .slice none 0 0, .slice none 0 0, .slice none 0 0, .slice none 0 0, .slice none 0 0] 29)) p q s from ⟨h.below (allocB w _), fr_below ⟨rfl, rfl, rfl, Nat.le_refl _, fun _ _ _ => rfl⟩ (allocB w _)⟩)
  have X0 := hid (Bx.new w #[.slice none 0 0, .slice none 0 0, .slice none 0 0, .slice none 0 0, .slice none 0 0, .slice none 0 0, .slice none 0 0] 29 (by decide))
  have PR := hid (And.intro hp hq)
  have D0 := hid hn
  obtain ⟨r, hr⟩ : ∃ r, r = w.heap.size := ⟨_, rfl⟩
  have WR := hid hr
  rw [← hr] at X0
  have NE := hid (show r ≠ p ∧ r ≠ q from by omega)
  clear h hn hp hq hr
  go_enter Tryd.func19, Tryd.ntmps19
  go_upto_region 1 with fail
  rw [← WR.out]
  generalize World.alloc w _ = w0 at *
  have K1 := hid (rlVal_any R0.out.rd D0.out (Nat.lt_of_lt_of_le PR.out.2 R0.out.fr.size))
  have D1 := hid (show ((cL false cC).rd s).2.1.length ≤ 15000000 from Nat.le_trans ((cL_good cC_good).down s) D0.out)
  have F1 := hid ((cL_good (q := false) cC_good).fine s HB.out)
  go_wp2_with fail
  (with_reducible refine Calls.mono K1.out ?_)
  rintro e w1 ⟨v1, rfl, q1, r1⟩
  have T1 := hid r1
  have Q1 := hid q1
  have R1 := hid (Rp.mk T1.out.rd (grownBy_trans R0.out.fr T1.out.fr))
  have X1 := hid (X0.out.but T1.out.fr NE.out.1.symm)
  have B1 := hid (show r < w0.heap.size from (Array.getElem?_eq_some_iff.1 X0.out.at_).1)
  clear r1 K1 q1
  have K2 := hid (rlTab_any R1.out.rd D1.out (Nat.lt_of_lt_of_le PR.out.2 R1.out.fr.size))
  have D2 := hid (show ((cL false (cT false)).rd ((cL false cC).rd s).2).2.1.length ≤ 15000000 from Nat.le_trans ((cL_good (cT_good false)).down ((cL false cC).rd s).2) D1.out)
  have F2 := hid ((cL_good (q := false) (cT_good false)).fine ((cL false cC).rd s).2 F1.out.2)
  go_wp2_with fail
  (with_reducible refine Calls.mono K2.out ?_)
  rintro e w2 ⟨v2, rfl, q2, r1⟩
  have T2 := hid r1
  have Q2 := hid q2
  have R2 := hid (Rp.mk T2.out.rd (grownBy_trans R1.out.fr T2.out.fr))
  have X2 := hid (X1.out.but T2.out.fr NE.out.1.symm)
  have B2 := hid (show r < w1.heap.size from (Array.getElem?_eq_some_iff.1 X1.out.at_).1)
  replace Q1 := hid (Q1.out.but T2.out.fr (Nat.lt_of_lt_of_le PR.out.1 R0.out.fr.size))
  clear r1 K2 q2
  have K3 := hid (rlKind_any R2.out.rd D2.out (Nat.lt_of_lt_of_le PR.out.2 R2.out.fr.size))
  have D3 := hid (show ((cL false cI).rd ((cL false (cT false)).rd ((cL false cC).rd s).2).2).2.1.length ≤ 15000000 from Nat.le_trans ((cL_good cI_good).down ((cL false (cT false)).rd ((cL false cC).rd s).2).2) D2.out)
  have F3 := hid ((cL_good (q := false) cI_good).fine ((cL false (cT false)).rd ((cL false cC).rd s).2).2 F2.out.2)
  go_wp2_with fail
  (with_reducible refine Calls.mono K3.out ?_)
  rintro e w3 ⟨v3, rfl, q3, r1⟩
  have T3 := hid r1
  have Q3 := hid q3
  have R3 := hid (Rp.mk T3.out.rd (grownBy_trans R2.out.fr T3.out.fr))
  have X3 := hid (X2.out.but T3.out.fr NE.out.1.symm)
  have B3 := hid (show r < w2.heap.size from (Array.getElem?_eq_some_iff.1 X2.out.at_).1)
  replace Q1 := hid (Q1.out.but T3.out.fr (Nat.lt_of_lt_of_le PR.out.1 R0.out.fr.size))
  replace Q2 := hid (Q2.out.but T3.out.fr (Nat.lt_of_lt_of_le PR.out.1 R1.out.fr.size))
  clear r1 K3 q3
  have K4 := hid (rlKind_any R3.out.rd D3.out (Nat.lt_of_lt_of_le PR.out.2 R3.out.fr.size))
  have D4 := hid (show ((cL false cI).rd ((cL false cI).rd ((cL false (cT false)).rd ((cL false cC).rd s).2).2).2).2.1.length ≤ 15000000 from Nat.le_trans ((cL_good cI_good).down ((cL false cI).rd ((cL false (cT false)).rd ((cL false cC).rd s).2).2).2) D3.out)
  have F4 := hid ((cL_good (q := false) cI_good).fine ((cL false cI).rd ((cL false (cT false)).rd ((cL false cC).rd s).2).2).2 F3.out.2)
  go_wp2_with fail
  (with_reducible refine Calls.mono K4.out ?_)
  rintro e w4 ⟨v4, rfl, q4, r1⟩
  have T4 := hid r1
  have Q4 := hid q4
  have R4 := hid (Rp.mk T4.out.rd (grownBy_trans R3.out.fr T4.out.fr))
  have X4 := hid (X3.out.but T4.out.fr NE.out.1.symm)
  have B4 := hid (show r < w3.heap.size from (Array.getElem?_eq_some_iff.1 X3.out.at_).1)
  replace Q1 := hid (Q1.out.but T4.out.fr (Nat.lt_of_lt_of_le PR.out.1 R0.out.fr.size))
  replace Q2 := hid (Q2.out.but T4.out.fr (Nat.lt_of_lt_of_le PR.out.1 R1.out.fr.size))
  replace Q3 := hid (Q3.out.but T4.out.fr (Nat.lt_of_lt_of_le PR.out.1 R2.out.fr.size))
  clear r1 K4 q4
  have K5 := hid (rlKind_any R4.out.rd D4.out (Nat.lt_of_lt_of_le PR.out.2 R4.out.fr.size))
  have D5 := hid (show ((cL false cI).rd ((cL false cI).rd ((cL false cI).rd ((cL false (cT false)).rd ((cL false cC).rd s).2).2).2).2).2.1.length ≤ 15000000 from Nat.le_trans ((cL_good cI_good).down ((cL false cI).rd ((cL false cI).rd ((cL false (cT false)).rd ((cL false cC).rd s).2).2).2).2) D4.out)
  have F5 := hid ((cL_good (q := false) cI_good).fine ((cL false cI).rd ((cL false cI).rd ((cL false (cT false)).rd ((cL false cC).rd s).2).2).2).2 F4.out.2)
  go_wp2_with fail
  (with_reducible refine Calls.mono K5.out ?_)
  rintro e w5 ⟨v5, rfl, q5, r1⟩
  have T5 := hid r1
  have Q5 := hid q5
  have R5 := hid (Rp.mk T5.out.rd (grownBy_trans R4.out.fr T5.out.fr))
  have X5 := hid (X4.out.but T5.out.fr NE.out.1.symm)
  have B5 := hid (show r < w4.heap.size from (Array.getElem?_eq_some_iff.1 X4.out.at_).1)
  replace Q1 := hid (Q1.out.but T5.out.fr (Nat.lt_of_lt_of_le PR.out.1 R0.out.fr.size))
  replace Q2 := hid (Q2.out.but T5.out.fr (Nat.lt_of_lt_of_le PR.out.1 R1.out.fr.size))
  replace Q3 := hid (Q3.out.but T5.out.fr (Nat.lt_of_lt_of_le PR.out.1 R2.out.fr.size))
  replace Q4 := hid (Q4.out.but T5.out.fr (Nat.lt_of_lt_of_le PR.out.1 R3.out.fr.size))
  clear r1 K5 q5
  have K6 := hid (rlStr_any R5.out.rd D5.out (Nat.lt_of_lt_of_le PR.out.2 R5.out.fr.size))
  have D6 := hid (show ((cL false cS).rd ((cL false cI).rd ((cL false cI).rd ((cL false cI).rd ((cL false (cT false)).rd ((cL false cC).rd s).2).2).2).2).2).2.1.length ≤ 15000000 from Nat.le_trans ((cL_good cS_good).down ((cL false cI).rd ((cL false cI).rd ((cL false cI).rd ((cL false (cT false)).rd ((cL false cC).rd s).2).2).2).2).2) D5.out)
  have F6 := hid ((cL_good (q := false) cS_good).fine ((cL false cI).rd ((cL false cI).rd ((cL false cI).rd ((cL false (cT false)).rd ((cL false cC).rd s).2).2).2).2).2 F5.out.2)
  go_wp2_with fail
  (with_reducible refine Calls.mono K6.out ?_)
  rintro e w6 ⟨v6, rfl, q6, r1⟩
  have T6 := hid r1
  have Q6 := hid q6
  have R6 := hid (Rp.mk T6.out.rd (grownBy_trans R5.out.fr T6.out.fr))
  have X6 := hid (X5.out.but T6.out.fr NE.out.1.symm)
  have B6 := hid (show r < w5.heap.size from (Array.getElem?_eq_some_iff.1 X5.out.at_).1)
  replace Q1 := hid (Q1.out.but T6.out.fr (Nat.lt_of_lt_of_le PR.out.1 R0.out.fr.size))
  replace Q2 := hid (Q2.out.but T6.out.fr (Nat.lt_of_lt_of_le PR.out.1 R1.out.fr.size))
  replace Q3 := hid (Q3.out.but T6.out.fr (Nat.lt_of_lt_of_le PR.out.1 R2.out.fr.size))
  replace Q4 := hid (Q4.out.but T6.out.fr (Nat.lt_of_lt_of_le PR.out.1 R3.out.fr.size))
  replace Q5 := hid (Q5.out.but T6.out.fr (Nat.lt_of_lt_of_le PR.out.1 R4.out.fr.size))
  clear r1 K6 q6
  have K7 := hid (rlIns_any R6.out.rd D6.out (Nat.lt_of_lt_of_le PR.out.2 R6.out.fr.size))
  have D7 := hid (show ((cL false cN).rd ((cL false cS).rd ((cL false cI).rd ((cL false cI).rd ((cL false cI).rd ((cL false (cT false)).rd ((cL false cC).rd s).2).2).2).2).2).2).2.1.length ≤ 15000000 from Nat.le_trans ((cL_good cN_good).down ((cL false cS).rd ((cL false cI).rd ((cL false cI).rd ((cL false cI).rd ((cL false (cT false)).rd ((cL false cC).rd s).2).2).2).2).2).2) D6.out)
  have F7 := hid ((cL_good (q := false) cN_good).fine ((cL false cS).rd ((cL false cI).rd ((cL false cI).rd ((cL false cI).rd ((cL false (cT false)).rd ((cL false cC).rd s).2).2).2).2).2).2 F6.out.2)
  go_wp2_with fail
  (with_reducible refine Calls.mono K7.out ?_)
  rintro e w7 ⟨v7, rfl, q7, r1⟩
  have T7 := hid r1
  have Q7 := hid q7
  have R7 := hid (Rp.mk T7.out.rd (grownBy_trans R6.out.fr T7.out.fr))
  have X7 := hid (X6.out.but T7.out.fr NE.out.1.symm)
  have B7 := hid (show r < w6.heap.size from (Array.getElem?_eq_some_iff.1 X6.out.at_).1)
  replace Q1 := hid (Q1.out.but T7.out.fr (Nat.lt_of_lt_of_le PR.out.1 R0.out.fr.size))
  replace Q2 := hid (Q2.out.but T7.out.fr (Nat.lt_of_lt_of_le PR.out.1 R1.out.fr.size))
  replace Q3 := hid (Q3.out.but T7.out.fr (Nat.lt_of_lt_of_le PR.out.1 R2.out.fr.size))
  replace Q4 := hid (Q4.out.but T7.out.fr (Nat.lt_of_lt_of_le PR.out.1 R3.out.fr.size))
  replace Q5 := hid (Q5.out.but T7.out.fr (Nat.lt_of_lt_of_le PR.out.1 R4.out.fr.size))
  replace Q6 := hid (Q6.out.but T7.out.fr (Nat.lt_of_lt_of_le PR.out.1 R5.out.fr.size))
  clear r1 K7 q7
  have d0 := X7.out.cell 0 _ rfl
  have d1 := X7.out.cell 1 _ rfl
  have d2 := X7.out.cell 2 _ rfl
  have d3 := X7.out.cell 3 _ rfl
  have d4 := X7.out.cell 4 _ rfl
  have d5 := X7.out.cell 5 _ rfl
  have d6 := X7.out.cell 6 _ rfl
  have fz := X7.out.fz
  have S := hid (set7 v1 v2 v3 v4 v5 v6 v7 d0 d1 d2 d3 d4 d5 d6)
  have G7 := hid (grown7 w7 r v1 v2 v3 v4 v5 v6 v7)
  have RF := hid (show Rp w (((((((w7.setCell ⟨r, 0, none⟩ v1).setCell ⟨r, 1, none⟩ v2).setCell ⟨r, 2, none⟩ v3).setCell ⟨r, 3, none⟩ v4).setCell ⟨r, 4, none⟩ v5).setCell ⟨r, 5, none⟩ v6).setCell ⟨r, 6, none⟩ v7) p q ((cL false cN).rd ((cL false cS).rd ((cL false cI).rd ((cL false cI).rd ((cL false cI).rd ((cL false (cT false)).rd ((cL false cC).rd s).2).2).2).2).2).2).2 from ⟨R7.out.rd.grown G7.out NE.out.1 NE.out.2, fr_row R7.out.fr G7.out (own_ge WR.out)⟩)
  obtain ⟨a0, c0, e0, y0⟩ := view_C (Q1.out.but G7.out B1.out) F1.out.1.1
  obtain ⟨a1, c1, e1, y1⟩ := view_T (Q2.out.but G7.out B2.out) F2.out.1.1
  obtain ⟨a2, c2, e2, y2⟩ := view_I (Q3.out.but G7.out B3.out) F3.out.1.1
  obtain ⟨a3, c3, e3, y3⟩ := view_I (Q4.out.but G7.out B4.out) F4.out.1.1
  obtain ⟨a4, c4, e4, y4⟩ := view_I (Q5.out.but G7.out B5.out) F5.out.1.1
  obtain ⟨a5, c5, e5, y5⟩ := view_S (Q6.out.but G7.out B6.out) (txt_len F5.out.2 D5.out)
  obtain ⟨a6, c6, e6, y6⟩ := view_N (Q7.out.but G7.out B7.out) F7.out.1.1
  have Y := hid (show Vw aC 3 _ a0 _ ((cL false cC).rd s).1 ∧ Vw aT 4 _ a1 _ ((cL false (cT false)).rd ((cL false cC).rd s).2).1 ∧ Vw aI 1 _ a2 _ ((cL false cI).rd ((cL false (cT false)).rd ((cL false cC).rd s).2).2).1 ∧ Vw aI 1 _ a3 _ ((cL false cI).rd ((cL false cI).rd ((cL false (cT false)).rd ((cL false cC).rd s).2).2).2).1 ∧ Vw aI 1 _ a4 _ ((cL false cI).rd ((cL false cI).rd ((cL false cI).rd ((cL false (cT false)).rd ((cL false cC).rd s).2).2).2).2).1 ∧ Vw aS 1 _ a5 _ ((cL false cS).rd ((cL false cI).rd ((cL false cI).rd ((cL false cI).rd ((cL false (cT false)).rd ((cL false cC).rd s).2).2).2).2).2).1 ∧ Vw aN 4 _ a6 _ ((cL false cN).rd ((cL false cS).rd ((cL false cI).rd ((cL false cI).rd ((cL false cI).rd ((cL false (cT false)).rd ((cL false cC).rd s).2).2).2).2).2).2).1 from ⟨y0, y1, y2, y3, y4, y5, y6⟩)
  clear G7 y0 y1 y2 y3 y4 y5 y6 Q1 Q2 Q3 Q4 Q5 Q6 Q7
  obtain ⟨n0, hn0⟩ : ∃ n, n = ((cL false cC).rd s).1.length := ⟨_, rfl⟩
  rw [← hn0] at e0 Y
  clear hn0
  obtain ⟨n1, hn1⟩ : ∃ n, n = ((cL false (cT false)).rd ((cL false cC).rd s).2).1.length := ⟨_, rfl⟩
  rw [← hn1] at e1 Y
  clear hn1
  obtain ⟨n2, hn2⟩ : ∃ n, n = ((cL false cI).rd ((cL false (cT false)).rd ((cL false cC).rd s).2).2).1.length := ⟨_, rfl⟩
  rw [← hn2] at e2 Y
  clear hn2
  obtain ⟨n3, hn3⟩ : ∃ n, n = ((cL false cI).rd ((cL false cI).rd ((cL false (cT false)).rd ((cL false cC).rd s).2).2).2).1.length := ⟨_, rfl⟩
  rw [← hn3] at e3 Y
  clear hn3
  obtain ⟨n4, hn4⟩ : ∃ n, n = ((cL false cI).rd ((cL false cI).rd ((cL false cI).rd ((cL false (cT false)).rd ((cL false cC).rd s).2).2).2).2).1.length := ⟨_, rfl⟩
  rw [← hn4] at e4 Y
  clear hn4
  obtain ⟨n5, hn5⟩ : ∃ n, n = ((cL false cS).rd ((cL false cI).rd ((cL false cI).rd ((cL false cI).rd ((cL false (cT false)).rd ((cL false cC).rd s).2).2).2).2).2).1.length := ⟨_, rfl⟩
  rw [← hn5] at e5 Y
  clear hn5
  obtain ⟨n6, hn6⟩ : ∃ n, n = ((cL false cN).rd ((cL false cS).rd ((cL false cI).rd ((cL false cI).rd ((cL false cI).rd ((cL false (cT false)).rd ((cL false cC).rd s).2).2).2).2).2).2).1.length := ⟨_, rfl⟩
  rw [← hn6] at e6 Y
  clear hn6
  subst e0 e1 e2 e3 e4 e5 e6
  go_wp2_with fail
  clear fz d0 d1 d2 d3 d4 d5 d6
  generalize (((((((w7.setCell ⟨r, 0, none⟩ (.slice a0 n0 c0)).setCell ⟨r, 1, none⟩ (.slice a1 n1 c1)).setCell ⟨r, 2, none⟩ (.slice a2 n2 c2)).setCell ⟨r, 3, none⟩ (.slice a3 n3 c3)).setCell ⟨r, 4, none⟩ (.slice a4 n4 c4)).setCell ⟨r, 5, none⟩ (.slice a5 n5 c5)).setCell ⟨r, 6, none⟩ (.slice a6 n6 c6)) = wf at *
  obtain ⟨f0, f1, f2, f3, f4, f5, f6⟩ := S.out
  try simp only [Exit.inBlock, Exit.then]
  refine bodyPost_ret (by simp [results, Tryd.results19, go_sem, f0, f1, f2, f3, f4, f5, f6]; try rfl) rfl ?_
  obtain ⟨y0, y1, y2, y3, y4, y5, y6⟩ := Y.out
  exact ⟨_, rfl, ⟨_, _, _, _, _, _, _, _, _, _, _, _, _, _, _, _, _, _, _, _, _, rfl, y0, y1, y2, y3, y4, y5, y6⟩, RF.out⟩

end Go.Proofs.YtcmifdnndckpcaaDoor
