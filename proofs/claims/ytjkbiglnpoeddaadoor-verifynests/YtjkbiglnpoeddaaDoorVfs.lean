/- The walk over verify's step of the outputs. -/
import Derived.Test.YtjkbiglnpoeddaaDoorVfr
namespace Go.Proofs.YtjkbiglnpoeddaaDoor.Vf
open Go.RowKit
set_option linter.unusedVariables false
set_option linter.unusedSimpArgs false

theorem Bx.q2 {w : World} {q : Nat} {T : TypeId} {a b : Value} (h : Bx w q T #[a, b]) : w.cell? ⟨q, 0, none⟩ = some a ∧ w.cell? ⟨q, 1, none⟩ = some b := ⟨h.cell 0 _ rfl, h.cell 1 _ rfl⟩
/-- What an instruction of those that are asked for here makes of which outputs are out. -/
def otB (all : Int) (i : Ins) (o : Int) : Bool := if i.1 = 23 then o == all else true
set_option maxRecDepth 100000 in
set_option maxHeartbeats 8000000 in
theorem out_9 {w : World} {ab : Nat} {all : Int} (hT : RT w) (hall : w.cell? ⟨ab, 0, none⟩ = some (.int .u64 all)) (m o : Int) (a b d : Int) (h0 : 0 ≤ a) (h1 : a ≤ 63) : Calls Tryd.prog 36 #[.agg #[.int .i64 9, .int .i64 a, .int .i64 b, .int .i64 d], .agg #[.int .i64 m, .int .u64 o], .pointer (some ⟨ab, 0, none⟩)] w fun e w' => e = .returned (.tuple #[.agg #[.int .i64 m, .int .u64 o], .bool true]) ∧ Below w.heap.size w w' := by
  have X1 := hid (Bx.new w #[.int .i64 9, .int .i64 a, .int .i64 b, .int .i64 d] 37 (by decide))
  have A1 := allocB w (.cells #[.int .i64 9, .int .i64 a, .int .i64 b, .int .i64 d] 37)
  obtain ⟨w1, hw1⟩ : ∃ w1, w1 = w.alloc (.cells #[.int .i64 9, .int .i64 a, .int .i64 b, .int .i64 d] 37) := ⟨_, rfl⟩
  have Z1 : w1.heap.size = w.heap.size + 1 := by rw [hw1]; simp
  rw [← hw1] at X1 A1
  have X2 := hid (Bx.new w1 #[.int .i64 m, .int .u64 o] 76 (by decide))
  have A2 := allocB w1 (.cells #[.int .i64 m, .int .u64 o] 76)
  obtain ⟨w2, hw2⟩ : ∃ w2, w2 = w1.alloc (.cells #[.int .i64 m, .int .u64 o] 76) := ⟨_, rfl⟩
  have Z2 : w2.heap.size = w.heap.size + 1 + 1 := by rw [hw2]; simp [Z1]
  rw [← hw2] at X2 A2
  have X3 := hid (Bx.new w2 #[.int .i64 0, .int .u64 0] 76 (by decide))
  have A3 := allocB w2 (.cells #[.int .i64 0, .int .u64 0] 76)
  have X1 := hid (Bx.next (Bx.next X1.out A2) A3)
  have X2 := hid (Bx.next X2.out A3)
  have B3 := hid (nxB (nxB A1 A2) A3)
  obtain ⟨q, hq⟩ : ∃ q, q = w.heap.size := ⟨_, rfl⟩
  have WR := hid hq
  rw [← hq] at X1
  rw [Z1, ← hq] at X2
  rw [Z2, ← hq] at X3
  have WW := hid (And.intro hw1 hw2)
  have ha := celB B3.out hall
  have HA := hid ha
  have QL := hid (show w.heap.size ≤ q + 1 + 1 ∧ ab < q + 1 + 1 from by have : ab < w.heap.size := World.block_lt_of_cell? _ _ hall; omega)
  have KN := hid (fun W b => code_Name_any 9 W ((hT.next B3.out).next b))
  have EN := hid (show opN 9 = ⟨#[110, 111, 116]⟩ from rfl)
  rw [EN.out] at KN
  clear hT hall EN hq A1 A2 A3 Z1 Z2 hw1 hw2
  go_enter Tryd.func36, Tryd.ntmps36
  go_upto_region 1 with fail
  rw [← WW.out.1, ← WW.out.2, ← WR.out]
  generalize World.alloc w2 _ = w3 at *
  obtain ⟨x0, x1, x2, x3⟩ := Bx.q4 X1.out
  go_upto_region 2 with fail
  generalize IntKind.u64.wrap (2 ^ (a % 64).toNat) = bt at *
  have Q2 := hid (show q + 1 + 1 ≠ q + 1 ∧ q + 1 + 1 ≠ q from by omega)
  generalize q + 1 + 1 = q3 at *
  generalize q + 1 = q2 at *
  clear x0 x1 x2 x3 ha
  obtain ⟨x0, x1, x2, x3⟩ := Bx.q4 X1.out
  have KQ := hid (KN.out w3 (Below.refl _ _))
  go_upto_region 11 with (go_at_call 21; (with_reducible refine Calls.mono KQ.out ?_); rintro e w4 ⟨rfl, b4⟩; have B4 := hid b4; clear b4)
  clear x0 x1 x2 x3 KQ KN
  have X2 := hid (Bx.next X2.out B4.out)
  have X3 := hid (Bx.next X3.out B4.out)
  have B5 := hid (nxB B3.out B4.out)
  have ha := celB B4.out HA.out
  have y0 := (Bx.q2 X2.out).1
  have y1 := (Bx.q2 X2.out).2
  have u0 := (Bx.q2 X3.out).1
  have u1 := (Bx.q2 X3.out).2
  have fz := Bx.fz2 X3.out
  have S := hid (set2 (.int .i64 m) (.int .u64 o) u0 u1)
  have n1 := Q2.out.1
  have n2 : ab ≠ q3 := by have := QL.out.2; omega
  have n3 : q3 ≠ ab := fun e => n2 e.symm
  have BF := hid (show Below w.heap.size w ((w4.setCell ⟨q3, 0, none⟩ (.int .i64 m)).setCell ⟨q3, 1, none⟩ (.int .u64 o)) from ((Kx.of [q3] B5.out).set (p := q3) (i := 0) (.int .i64 m) (by simp) |>.set (p := q3) (i := 1) (.int .u64 o) (by simp)).drop (by have := QL.out.1; omega) |>.bel (Nat.le_refl _) (by simp))
  go_wp2_with fail
  clear y0 y1 u0 u1 fz ha
  generalize ((w4.setCell ⟨q3, 0, none⟩ (.int .i64 m)).setCell ⟨q3, 1, none⟩ (.int .u64 o)) = wf at *
  obtain ⟨f0, f1⟩ := S.out
  try simp only [Exit.inBlock, Exit.then]
  refine bodyPost_ret (v := .tuple #[.agg #[.int .i64 m, .int .u64 o], .bool true]) (by simp [results, Tryd.results36, go_sem, f0, f1]; try rfl) rfl ?_
  exact ⟨rfl, BF.out⟩
set_option maxRecDepth 100000 in
set_option maxHeartbeats 8000000 in
theorem out_23y {w : World} {ab : Nat} {all : Int} (hT : RT w) (hall : w.cell? ⟨ab, 0, none⟩ = some (.int .u64 all)) (m o : Int) (hq : (o == all) = true) (a b d : Int) (h0 : 0 ≤ a) (h1 : a ≤ 63) : Calls Tryd.prog 36 #[.agg #[.int .i64 23, .int .i64 a, .int .i64 b, .int .i64 d], .agg #[.int .i64 m, .int .u64 o], .pointer (some ⟨ab, 0, none⟩)] w fun e w' => e = .returned (.tuple #[.agg #[.int .i64 m, .int .u64 o], .bool true]) ∧ Below w.heap.size w w' := by
  have X1 := hid (Bx.new w #[.int .i64 23, .int .i64 a, .int .i64 b, .int .i64 d] 37 (by decide))
  have A1 := allocB w (.cells #[.int .i64 23, .int .i64 a, .int .i64 b, .int .i64 d] 37)
  obtain ⟨w1, hw1⟩ : ∃ w1, w1 = w.alloc (.cells #[.int .i64 23, .int .i64 a, .int .i64 b, .int .i64 d] 37) := ⟨_, rfl⟩
  have Z1 : w1.heap.size = w.heap.size + 1 := by rw [hw1]; simp
  rw [← hw1] at X1 A1
  have X2 := hid (Bx.new w1 #[.int .i64 m, .int .u64 o] 76 (by decide))
  have A2 := allocB w1 (.cells #[.int .i64 m, .int .u64 o] 76)
  obtain ⟨w2, hw2⟩ : ∃ w2, w2 = w1.alloc (.cells #[.int .i64 m, .int .u64 o] 76) := ⟨_, rfl⟩
  have Z2 : w2.heap.size = w.heap.size + 1 + 1 := by rw [hw2]; simp [Z1]
  rw [← hw2] at X2 A2
  have X3 := hid (Bx.new w2 #[.int .i64 0, .int .u64 0] 76 (by decide))
  have A3 := allocB w2 (.cells #[.int .i64 0, .int .u64 0] 76)
  have X1 := hid (Bx.next (Bx.next X1.out A2) A3)
  have X2 := hid (Bx.next X2.out A3)
  have B3 := hid (nxB (nxB A1 A2) A3)
  obtain ⟨q, hq⟩ : ∃ q, q = w.heap.size := ⟨_, rfl⟩
  have WR := hid hq
  rw [← hq] at X1
  rw [Z1, ← hq] at X2
  rw [Z2, ← hq] at X3
  have WW := hid (And.intro hw1 hw2)
  have ha := celB B3.out hall
  have HA := hid ha
  have QL := hid (show w.heap.size ≤ q + 1 + 1 ∧ ab < q + 1 + 1 from by have : ab < w.heap.size := World.block_lt_of_cell? _ _ hall; omega)
  have KN := hid (fun W b => code_Name_any 23 W ((hT.next B3.out).next b))
  have EN := hid (show opN 23 = ⟨#[104, 97, 108, 116]⟩ from rfl)
  rw [EN.out] at KN
  clear hT hall EN hq A1 A2 A3 Z1 Z2 hw1 hw2
  go_enter Tryd.func36, Tryd.ntmps36
  go_upto_region 1 with fail
  rw [← WW.out.1, ← WW.out.2, ← WR.out]
  generalize World.alloc w2 _ = w3 at *
  obtain ⟨x0, x1, x2, x3⟩ := Bx.q4 X1.out
  go_upto_region 2 with fail
  generalize IntKind.u64.wrap (2 ^ (a % 64).toNat) = bt at *
  have Q2 := hid (show q + 1 + 1 ≠ q + 1 ∧ q + 1 + 1 ≠ q from by omega)
  generalize q + 1 + 1 = q3 at *
  generalize q + 1 = q2 at *
  clear x0 x1 x2 x3 ha
  obtain ⟨x0, x1, x2, x3⟩ := Bx.q4 X1.out
  have KQ := hid (KN.out w3 (Below.refl _ _))
  go_upto_region 10 with (go_at_call 21; (with_reducible refine Calls.mono KQ.out ?_); rintro e w4 ⟨rfl, b4⟩; have B4 := hid b4; clear b4)
  clear x0 x1 x2 x3 KQ KN
  have X2 := hid (Bx.next X2.out B4.out)
  have X3 := hid (Bx.next X3.out B4.out)
  have B5 := hid (nxB B3.out B4.out)
  have ha := celB B4.out HA.out
  have y0 := (Bx.q2 X2.out).1
  have y1 := (Bx.q2 X2.out).2
  have u0 := (Bx.q2 X3.out).1
  have u1 := (Bx.q2 X3.out).2
  have fz := Bx.fz2 X3.out
  have S := hid (set2 (.int .i64 m) (.int .u64 o) u0 u1)
  have n1 := Q2.out.1
  have n2 : ab ≠ q3 := by have := QL.out.2; omega
  have n3 : q3 ≠ ab := fun e => n2 e.symm
  have BF := hid (show Below w.heap.size w ((w4.setCell ⟨q3, 0, none⟩ (.int .i64 m)).setCell ⟨q3, 1, none⟩ (.int .u64 o)) from ((Kx.of [q3] B5.out).set (p := q3) (i := 0) (.int .i64 m) (by simp) |>.set (p := q3) (i := 1) (.int .u64 o) (by simp)).drop (by have := QL.out.1; omega) |>.bel (Nat.le_refl _) (by simp))
  go_region
  clear y0 y1 u0 u1 fz ha
  have BF := hid (nxB BF.out (dw1 _))
  have F01 := hid (show ((w4.setCell ⟨q3, 0, none⟩ (.int .i64 m)).setCell ⟨q3, 1, none⟩ (.int .u64 o)).drew.cell? ⟨q3, 0, none⟩ = some (.int .i64 m) ∧ ((w4.setCell ⟨q3, 0, none⟩ (.int .i64 m)).setCell ⟨q3, 1, none⟩ (.int .u64 o)).drew.cell? ⟨q3, 1, none⟩ = some (.int .u64 o) from ⟨celB (dw1 _) S.out.1, celB (dw1 _) S.out.2⟩)
  generalize ((w4.setCell ⟨q3, 0, none⟩ (.int .i64 m)).setCell ⟨q3, 1, none⟩ (.int .u64 o)).drew = wf at *
  obtain ⟨f0, f1⟩ := F01.out
  go_wp2_with fail
  try simp only [Exit.inBlock, Exit.then]
  refine bodyPost_ret (v := .tuple #[.agg #[.int .i64 m, .int .u64 o], .bool true]) (by simp [results, Tryd.results36, go_sem, f0, f1]; try rfl) rfl ?_
  exact ⟨rfl, BF.out⟩
set_option maxRecDepth 100000 in
set_option maxHeartbeats 8000000 in
theorem out_23n {w : World} {ab : Nat} {all : Int} (hT : RT w) (hall : w.cell? ⟨ab, 0, none⟩ = some (.int .u64 all)) (m o : Int) (hq : (o == all) = false) (a b d : Int) (h0 : 0 ≤ a) (h1 : a ≤ 63) : Calls Tryd.prog 36 #[.agg #[.int .i64 23, .int .i64 a, .int .i64 b, .int .i64 d], .agg #[.int .i64 m, .int .u64 o], .pointer (some ⟨ab, 0, none⟩)] w fun e w' => e = .returned (.tuple #[.agg #[.int .i64 m, .int .u64 o], .bool false]) ∧ Below w.heap.size w w' := by
  have X1 := hid (Bx.new w #[.int .i64 23, .int .i64 a, .int .i64 b, .int .i64 d] 37 (by decide))
  have A1 := allocB w (.cells #[.int .i64 23, .int .i64 a, .int .i64 b, .int .i64 d] 37)
  obtain ⟨w1, hw1⟩ : ∃ w1, w1 = w.alloc (.cells #[.int .i64 23, .int .i64 a, .int .i64 b, .int .i64 d] 37) := ⟨_, rfl⟩
  have Z1 : w1.heap.size = w.heap.size + 1 := by rw [hw1]; simp
  rw [← hw1] at X1 A1
  have X2 := hid (Bx.new w1 #[.int .i64 m, .int .u64 o] 76 (by decide))
  have A2 := allocB w1 (.cells #[.int .i64 m, .int .u64 o] 76)
  obtain ⟨w2, hw2⟩ : ∃ w2, w2 = w1.alloc (.cells #[.int .i64 m, .int .u64 o] 76) := ⟨_, rfl⟩
  have Z2 : w2.heap.size = w.heap.size + 1 + 1 := by rw [hw2]; simp [Z1]
  rw [← hw2] at X2 A2
  have X3 := hid (Bx.new w2 #[.int .i64 0, .int .u64 0] 76 (by decide))
  have A3 := allocB w2 (.cells #[.int .i64 0, .int .u64 0] 76)
  have X1 := hid (Bx.next (Bx.next X1.out A2) A3)
  have X2 := hid (Bx.next X2.out A3)
  have B3 := hid (nxB (nxB A1 A2) A3)
  obtain ⟨q, hq⟩ : ∃ q, q = w.heap.size := ⟨_, rfl⟩
  have WR := hid hq
  rw [← hq] at X1
  rw [Z1, ← hq] at X2
  rw [Z2, ← hq] at X3
  have WW := hid (And.intro hw1 hw2)
  have ha := celB B3.out hall
  have HA := hid ha
  have QL := hid (show w.heap.size ≤ q + 1 + 1 ∧ ab < q + 1 + 1 from by have : ab < w.heap.size := World.block_lt_of_cell? _ _ hall; omega)
  have KN := hid (fun W b => code_Name_any 23 W ((hT.next B3.out).next b))
  have EN := hid (show opN 23 = ⟨#[104, 97, 108, 116]⟩ from rfl)
  rw [EN.out] at KN
  clear hT hall EN hq A1 A2 A3 Z1 Z2 hw1 hw2
  go_enter Tryd.func36, Tryd.ntmps36
  go_upto_region 1 with fail
  rw [← WW.out.1, ← WW.out.2, ← WR.out]
  generalize World.alloc w2 _ = w3 at *
  obtain ⟨x0, x1, x2, x3⟩ := Bx.q4 X1.out
  go_upto_region 2 with fail
  generalize IntKind.u64.wrap (2 ^ (a % 64).toNat) = bt at *
  have Q2 := hid (show q + 1 + 1 ≠ q + 1 ∧ q + 1 + 1 ≠ q from by omega)
  generalize q + 1 + 1 = q3 at *
  generalize q + 1 = q2 at *
  clear x0 x1 x2 x3 ha
  obtain ⟨x0, x1, x2, x3⟩ := Bx.q4 X1.out
  have KQ := hid (KN.out w3 (Below.refl _ _))
  go_upto_region 10 with (go_at_call 21; (with_reducible refine Calls.mono KQ.out ?_); rintro e w4 ⟨rfl, b4⟩; have B4 := hid b4; clear b4)
  clear x0 x1 x2 x3 KQ KN
  have X2 := hid (Bx.next X2.out B4.out)
  have X3 := hid (Bx.next X3.out B4.out)
  have B5 := hid (nxB B3.out B4.out)
  have ha := celB B4.out HA.out
  have y0 := (Bx.q2 X2.out).1
  have y1 := (Bx.q2 X2.out).2
  have u0 := (Bx.q2 X3.out).1
  have u1 := (Bx.q2 X3.out).2
  have fz := Bx.fz2 X3.out
  have S := hid (set2 (.int .i64 m) (.int .u64 o) u0 u1)
  have n1 := Q2.out.1
  have n2 : ab ≠ q3 := by have := QL.out.2; omega
  have n3 : q3 ≠ ab := fun e => n2 e.symm
  have BF := hid (show Below w.heap.size w ((w4.setCell ⟨q3, 0, none⟩ (.int .i64 m)).setCell ⟨q3, 1, none⟩ (.int .u64 o)) from ((Kx.of [q3] B5.out).set (p := q3) (i := 0) (.int .i64 m) (by simp) |>.set (p := q3) (i := 1) (.int .u64 o) (by simp)).drop (by have := QL.out.1; omega) |>.bel (Nat.le_refl _) (by simp))
  go_region
  clear y0 y1 u0 u1 fz ha
  have BF := hid (nxB BF.out (dw1 _))
  have F01 := hid (show ((w4.setCell ⟨q3, 0, none⟩ (.int .i64 m)).setCell ⟨q3, 1, none⟩ (.int .u64 o)).drew.cell? ⟨q3, 0, none⟩ = some (.int .i64 m) ∧ ((w4.setCell ⟨q3, 0, none⟩ (.int .i64 m)).setCell ⟨q3, 1, none⟩ (.int .u64 o)).drew.cell? ⟨q3, 1, none⟩ = some (.int .u64 o) from ⟨celB (dw1 _) S.out.1, celB (dw1 _) S.out.2⟩)
  generalize ((w4.setCell ⟨q3, 0, none⟩ (.int .i64 m)).setCell ⟨q3, 1, none⟩ (.int .u64 o)).drew = wf at *
  obtain ⟨f0, f1⟩ := F01.out
  go_wp2_with fail
  try simp only [Exit.inBlock, Exit.then]
  refine bodyPost_ret (v := .tuple #[.agg #[.int .i64 m, .int .u64 o], .bool false]) (by simp [results, Tryd.results36, go_sem, f0, f1]; try rfl) rfl ?_
  exact ⟨rfl, BF.out⟩
set_option maxRecDepth 100000 in
set_option maxHeartbeats 8000000 in
theorem out_17 {w : World} {ab : Nat} {all : Int} (hT : RT w) (hall : w.cell? ⟨ab, 0, none⟩ = some (.int .u64 all)) (m o : Int) (a b d : Int) (h0 : 0 ≤ a) (h1 : a ≤ 63) : Calls Tryd.prog 36 #[.agg #[.int .i64 17, .int .i64 a, .int .i64 b, .int .i64 d], .agg #[.int .i64 m, .int .u64 o], .pointer (some ⟨ab, 0, none⟩)] w fun e w' => e = .returned (.tuple #[.agg #[.int .i64 m, .int .u64 o], .bool true]) ∧ Below w.heap.size w w' := by
  have X1 := hid (Bx.new w #[.int .i64 17, .int .i64 a, .int .i64 b, .int .i64 d] 37 (by decide))
  have A1 := allocB w (.cells #[.int .i64 17, .int .i64 a, .int .i64 b, .int .i64 d] 37)
  obtain ⟨w1, hw1⟩ : ∃ w1, w1 = w.alloc (.cells #[.int .i64 17, .int .i64 a, .int .i64 b, .int .i64 d] 37) := ⟨_, rfl⟩
  have Z1 : w1.heap.size = w.heap.size + 1 := by rw [hw1]; simp
  rw [← hw1] at X1 A1
  have X2 := hid (Bx.new w1 #[.int .i64 m, .int .u64 o] 76 (by decide))
  have A2 := allocB w1 (.cells #[.int .i64 m, .int .u64 o] 76)
  obtain ⟨w2, hw2⟩ : ∃ w2, w2 = w1.alloc (.cells #[.int .i64 m, .int .u64 o] 76) := ⟨_, rfl⟩
  have Z2 : w2.heap.size = w.heap.size + 1 + 1 := by rw [hw2]; simp [Z1]
  rw [← hw2] at X2 A2
  have X3 := hid (Bx.new w2 #[.int .i64 0, .int .u64 0] 76 (by decide))
  have A3 := allocB w2 (.cells #[.int .i64 0, .int .u64 0] 76)
  have X1 := hid (Bx.next (Bx.next X1.out A2) A3)
  have X2 := hid (Bx.next X2.out A3)
  have B3 := hid (nxB (nxB A1 A2) A3)
  obtain ⟨q, hq⟩ : ∃ q, q = w.heap.size := ⟨_, rfl⟩
  have WR := hid hq
  rw [← hq] at X1
  rw [Z1, ← hq] at X2
  rw [Z2, ← hq] at X3
  have WW := hid (And.intro hw1 hw2)
  have ha := celB B3.out hall
  have HA := hid ha
  have QL := hid (show w.heap.size ≤ q + 1 + 1 ∧ ab < q + 1 + 1 from by have : ab < w.heap.size := World.block_lt_of_cell? _ _ hall; omega)
  have KN := hid (fun W b => code_Name_any 17 W ((hT.next B3.out).next b))
  have EN := hid (show opN 17 = ⟨#[106, 117, 109, 112]⟩ from rfl)
  rw [EN.out] at KN
  clear hT hall EN hq A1 A2 A3 Z1 Z2 hw1 hw2
  go_enter Tryd.func36, Tryd.ntmps36
  go_upto_region 1 with fail
  rw [← WW.out.1, ← WW.out.2, ← WR.out]
  generalize World.alloc w2 _ = w3 at *
  obtain ⟨x0, x1, x2, x3⟩ := Bx.q4 X1.out
  go_upto_region 2 with fail
  generalize IntKind.u64.wrap (2 ^ (a % 64).toNat) = bt at *
  have Q2 := hid (show q + 1 + 1 ≠ q + 1 ∧ q + 1 + 1 ≠ q from by omega)
  generalize q + 1 + 1 = q3 at *
  generalize q + 1 = q2 at *
  clear x0 x1 x2 x3 ha
  obtain ⟨x0, x1, x2, x3⟩ := Bx.q4 X1.out
  have KQ := hid (KN.out w3 (Below.refl _ _))
  go_upto_region 11 with (go_at_call 21; (with_reducible refine Calls.mono KQ.out ?_); rintro e w4 ⟨rfl, b4⟩; have B4 := hid b4; clear b4)
  clear x0 x1 x2 x3 KQ KN
  have X2 := hid (Bx.next X2.out B4.out)
  have X3 := hid (Bx.next X3.out B4.out)
  have B5 := hid (nxB B3.out B4.out)
  have ha := celB B4.out HA.out
  have y0 := (Bx.q2 X2.out).1
  have y1 := (Bx.q2 X2.out).2
  have u0 := (Bx.q2 X3.out).1
  have u1 := (Bx.q2 X3.out).2
  have fz := Bx.fz2 X3.out
  have S := hid (set2 (.int .i64 m) (.int .u64 o) u0 u1)
  have n1 := Q2.out.1
  have n2 : ab ≠ q3 := by have := QL.out.2; omega
  have n3 : q3 ≠ ab := fun e => n2 e.symm
  have BF := hid (show Below w.heap.size w ((w4.setCell ⟨q3, 0, none⟩ (.int .i64 m)).setCell ⟨q3, 1, none⟩ (.int .u64 o)) from ((Kx.of [q3] B5.out).set (p := q3) (i := 0) (.int .i64 m) (by simp) |>.set (p := q3) (i := 1) (.int .u64 o) (by simp)).drop (by have := QL.out.1; omega) |>.bel (Nat.le_refl _) (by simp))
  go_wp2_with fail
  clear y0 y1 u0 u1 fz ha
  generalize ((w4.setCell ⟨q3, 0, none⟩ (.int .i64 m)).setCell ⟨q3, 1, none⟩ (.int .u64 o)) = wf at *
  obtain ⟨f0, f1⟩ := S.out
  try simp only [Exit.inBlock, Exit.then]
  refine bodyPost_ret (v := .tuple #[.agg #[.int .i64 m, .int .u64 o], .bool true]) (by simp [results, Tryd.results36, go_sem, f0, f1]; try rfl) rfl ?_
  exact ⟨rfl, BF.out⟩
set_option maxRecDepth 100000 in
set_option maxHeartbeats 8000000 in
theorem out_19 {w : World} {ab : Nat} {all : Int} (hT : RT w) (hall : w.cell? ⟨ab, 0, none⟩ = some (.int .u64 all)) (m o : Int) (a b d : Int) (h0 : 0 ≤ a) (h1 : a ≤ 63) : Calls Tryd.prog 36 #[.agg #[.int .i64 19, .int .i64 a, .int .i64 b, .int .i64 d], .agg #[.int .i64 m, .int .u64 o], .pointer (some ⟨ab, 0, none⟩)] w fun e w' => e = .returned (.tuple #[.agg #[.int .i64 m, .int .u64 o], .bool true]) ∧ Below w.heap.size w w' := by
  have X1 := hid (Bx.new w #[.int .i64 19, .int .i64 a, .int .i64 b, .int .i64 d] 37 (by decide))
  have A1 := allocB w (.cells #[.int .i64 19, .int .i64 a, .int .i64 b, .int .i64 d] 37)
  obtain ⟨w1, hw1⟩ : ∃ w1, w1 = w.alloc (.cells #[.int .i64 19, .int .i64 a, .int .i64 b, .int .i64 d] 37) := ⟨_, rfl⟩
  have Z1 : w1.heap.size = w.heap.size + 1 := by rw [hw1]; simp
  rw [← hw1] at X1 A1
  have X2 := hid (Bx.new w1 #[.int .i64 m, .int .u64 o] 76 (by decide))
  have A2 := allocB w1 (.cells #[.int .i64 m, .int .u64 o] 76)
  obtain ⟨w2, hw2⟩ : ∃ w2, w2 = w1.alloc (.cells #[.int .i64 m, .int .u64 o] 76) := ⟨_, rfl⟩
  have Z2 : w2.heap.size = w.heap.size + 1 + 1 := by rw [hw2]; simp [Z1]
  rw [← hw2] at X2 A2
  have X3 := hid (Bx.new w2 #[.int .i64 0, .int .u64 0] 76 (by decide))
  have A3 := allocB w2 (.cells #[.int .i64 0, .int .u64 0] 76)
  have X1 := hid (Bx.next (Bx.next X1.out A2) A3)
  have X2 := hid (Bx.next X2.out A3)
  have B3 := hid (nxB (nxB A1 A2) A3)
  obtain ⟨q, hq⟩ : ∃ q, q = w.heap.size := ⟨_, rfl⟩
  have WR := hid hq
  rw [← hq] at X1
  rw [Z1, ← hq] at X2
  rw [Z2, ← hq] at X3
  have WW := hid (And.intro hw1 hw2)
  have ha := celB B3.out hall
  have HA := hid ha
  have QL := hid (show w.heap.size ≤ q + 1 + 1 ∧ ab < q + 1 + 1 from by have : ab < w.heap.size := World.block_lt_of_cell? _ _ hall; omega)
  have KN := hid (fun W b => code_Name_any 19 W ((hT.next B3.out).next b))
  have EN := hid (show opN 19 = ⟨#[102, 105, 114, 115, 116]⟩ from rfl)
  rw [EN.out] at KN
  clear hT hall EN hq A1 A2 A3 Z1 Z2 hw1 hw2
  go_enter Tryd.func36, Tryd.ntmps36
  go_upto_region 1 with fail
  rw [← WW.out.1, ← WW.out.2, ← WR.out]
  generalize World.alloc w2 _ = w3 at *
  obtain ⟨x0, x1, x2, x3⟩ := Bx.q4 X1.out
  go_upto_region 2 with fail
  generalize IntKind.u64.wrap (2 ^ (a % 64).toNat) = bt at *
  have Q2 := hid (show q + 1 + 1 ≠ q + 1 ∧ q + 1 + 1 ≠ q from by omega)
  generalize q + 1 + 1 = q3 at *
  generalize q + 1 = q2 at *
  clear x0 x1 x2 x3 ha
  obtain ⟨x0, x1, x2, x3⟩ := Bx.q4 X1.out
  have KQ := hid (KN.out w3 (Below.refl _ _))
  go_upto_region 11 with (go_at_call 21; (with_reducible refine Calls.mono KQ.out ?_); rintro e w4 ⟨rfl, b4⟩; have B4 := hid b4; clear b4)
  clear x0 x1 x2 x3 KQ KN
  have X2 := hid (Bx.next X2.out B4.out)
  have X3 := hid (Bx.next X3.out B4.out)
  have B5 := hid (nxB B3.out B4.out)
  have ha := celB B4.out HA.out
  have y0 := (Bx.q2 X2.out).1
  have y1 := (Bx.q2 X2.out).2
  have u0 := (Bx.q2 X3.out).1
  have u1 := (Bx.q2 X3.out).2
  have fz := Bx.fz2 X3.out
  have S := hid (set2 (.int .i64 m) (.int .u64 o) u0 u1)
  have n1 := Q2.out.1
  have n2 : ab ≠ q3 := by have := QL.out.2; omega
  have n3 : q3 ≠ ab := fun e => n2 e.symm
  have BF := hid (show Below w.heap.size w ((w4.setCell ⟨q3, 0, none⟩ (.int .i64 m)).setCell ⟨q3, 1, none⟩ (.int .u64 o)) from ((Kx.of [q3] B5.out).set (p := q3) (i := 0) (.int .i64 m) (by simp) |>.set (p := q3) (i := 1) (.int .u64 o) (by simp)).drop (by have := QL.out.1; omega) |>.bel (Nat.le_refl _) (by simp))
  go_wp2_with fail
  clear y0 y1 u0 u1 fz ha
  generalize ((w4.setCell ⟨q3, 0, none⟩ (.int .i64 m)).setCell ⟨q3, 1, none⟩ (.int .u64 o)) = wf at *
  obtain ⟨f0, f1⟩ := S.out
  try simp only [Exit.inBlock, Exit.then]
  refine bodyPost_ret (v := .tuple #[.agg #[.int .i64 m, .int .u64 o], .bool true]) (by simp [results, Tryd.results36, go_sem, f0, f1]; try rfl) rfl ?_
  exact ⟨rfl, BF.out⟩
set_option maxRecDepth 100000 in
set_option maxHeartbeats 8000000 in
theorem out_20 {w : World} {ab : Nat} {all : Int} (hT : RT w) (hall : w.cell? ⟨ab, 0, none⟩ = some (.int .u64 all)) (m o : Int) (a b d : Int) (h0 : 0 ≤ a) (h1 : a ≤ 63) : Calls Tryd.prog 36 #[.agg #[.int .i64 20, .int .i64 a, .int .i64 b, .int .i64 d], .agg #[.int .i64 m, .int .u64 o], .pointer (some ⟨ab, 0, none⟩)] w fun e w' => e = .returned (.tuple #[.agg #[.int .i64 m, .int .u64 o], .bool true]) ∧ Below w.heap.size w w' := by
  have X1 := hid (Bx.new w #[.int .i64 20, .int .i64 a, .int .i64 b, .int .i64 d] 37 (by decide))
  have A1 := allocB w (.cells #[.int .i64 20, .int .i64 a, .int .i64 b, .int .i64 d] 37)
  obtain ⟨w1, hw1⟩ : ∃ w1, w1 = w.alloc (.cells #[.int .i64 20, .int .i64 a, .int .i64 b, .int .i64 d] 37) := ⟨_, rfl⟩
  have Z1 : w1.heap.size = w.heap.size + 1 := by rw [hw1]; simp
  rw [← hw1] at X1 A1
  have X2 := hid (Bx.new w1 #[.int .i64 m, .int .u64 o] 76 (by decide))
  have A2 := allocB w1 (.cells #[.int .i64 m, .int .u64 o] 76)
  obtain ⟨w2, hw2⟩ : ∃ w2, w2 = w1.alloc (.cells #[.int .i64 m, .int .u64 o] 76) := ⟨_, rfl⟩
  have Z2 : w2.heap.size = w.heap.size + 1 + 1 := by rw [hw2]; simp [Z1]
  rw [← hw2] at X2 A2
  have X3 := hid (Bx.new w2 #[.int .i64 0, .int .u64 0] 76 (by decide))
  have A3 := allocB w2 (.cells #[.int .i64 0, .int .u64 0] 76)
  have X1 := hid (Bx.next (Bx.next X1.out A2) A3)
  have X2 := hid (Bx.next X2.out A3)
  have B3 := hid (nxB (nxB A1 A2) A3)
  obtain ⟨q, hq⟩ : ∃ q, q = w.heap.size := ⟨_, rfl⟩
  have WR := hid hq
  rw [← hq] at X1
  rw [Z1, ← hq] at X2
  rw [Z2, ← hq] at X3
  have WW := hid (And.intro hw1 hw2)
  have ha := celB B3.out hall
  have HA := hid ha
  have QL := hid (show w.heap.size ≤ q + 1 + 1 ∧ ab < q + 1 + 1 from by have : ab < w.heap.size := World.block_lt_of_cell? _ _ hall; omega)
  have KN := hid (fun W b => code_Name_any 20 W ((hT.next B3.out).next b))
  have EN := hid (show opN 20 = ⟨#[110, 101, 120, 116]⟩ from rfl)
  rw [EN.out] at KN
  clear hT hall EN hq A1 A2 A3 Z1 Z2 hw1 hw2
  go_enter Tryd.func36, Tryd.ntmps36
  go_upto_region 1 with fail
  rw [← WW.out.1, ← WW.out.2, ← WR.out]
  generalize World.alloc w2 _ = w3 at *
  obtain ⟨x0, x1, x2, x3⟩ := Bx.q4 X1.out
  go_upto_region 2 with fail
  generalize IntKind.u64.wrap (2 ^ (a % 64).toNat) = bt at *
  have Q2 := hid (show q + 1 + 1 ≠ q + 1 ∧ q + 1 + 1 ≠ q from by omega)
  generalize q + 1 + 1 = q3 at *
  generalize q + 1 = q2 at *
  clear x0 x1 x2 x3 ha
  obtain ⟨x0, x1, x2, x3⟩ := Bx.q4 X1.out
  have KQ := hid (KN.out w3 (Below.refl _ _))
  go_upto_region 11 with (go_at_call 21; (with_reducible refine Calls.mono KQ.out ?_); rintro e w4 ⟨rfl, b4⟩; have B4 := hid b4; clear b4)
  clear x0 x1 x2 x3 KQ KN
  have X2 := hid (Bx.next X2.out B4.out)
  have X3 := hid (Bx.next X3.out B4.out)
  have B5 := hid (nxB B3.out B4.out)
  have ha := celB B4.out HA.out
  have y0 := (Bx.q2 X2.out).1
  have y1 := (Bx.q2 X2.out).2
  have u0 := (Bx.q2 X3.out).1
  have u1 := (Bx.q2 X3.out).2
  have fz := Bx.fz2 X3.out
  have S := hid (set2 (.int .i64 m) (.int .u64 o) u0 u1)
  have n1 := Q2.out.1
  have n2 : ab ≠ q3 := by have := QL.out.2; omega
  have n3 : q3 ≠ ab := fun e => n2 e.symm
  have BF := hid (show Below w.heap.size w ((w4.setCell ⟨q3, 0, none⟩ (.int .i64 m)).setCell ⟨q3, 1, none⟩ (.int .u64 o)) from ((Kx.of [q3] B5.out).set (p := q3) (i := 0) (.int .i64 m) (by simp) |>.set (p := q3) (i := 1) (.int .u64 o) (by simp)).drop (by have := QL.out.1; omega) |>.bel (Nat.le_refl _) (by simp))
  go_wp2_with fail
  clear y0 y1 u0 u1 fz ha
  generalize ((w4.setCell ⟨q3, 0, none⟩ (.int .i64 m)).setCell ⟨q3, 1, none⟩ (.int .u64 o)) = wf at *
  obtain ⟨f0, f1⟩ := S.out
  try simp only [Exit.inBlock, Exit.then]
  refine bodyPost_ret (v := .tuple #[.agg #[.int .i64 m, .int .u64 o], .bool true]) (by simp [results, Tryd.results36, go_sem, f0, f1]; try rfl) rfl ?_
  exact ⟨rfl, BF.out⟩
theorem out_any {w : World} {ab : Nat} {all : Int} (hT : RT w) (hall : w.cell? ⟨ab, 0, none⟩ = some (.int .u64 all)) (m o : Int) (i : Ins) (hR : Rst i.1) (h0 : 0 ≤ i.2.1 ∧ i.2.1 ≤ 63) :
    Calls Tryd.prog 36 #[.agg #[.int .i64 i.1, .int .i64 i.2.1, .int .i64 i.2.2.1, .int .i64 i.2.2.2], .agg #[.int .i64 m, .int .u64 o], .pointer (some ⟨ab, 0, none⟩)] w fun e w' => e = .returned (.tuple #[.agg #[.int .i64 m, .int .u64 o], .bool (otB all i o)]) ∧ Below w.heap.size w w' := by
  obtain ⟨op, a, b, d⟩ := i
  rcases hR with h | h | h | h | h <;> (dsimp only at h; subst h)
  · exact out_9 hT hall m o a b d h0.1 h0.2
  · exact out_17 hT hall m o a b d h0.1 h0.2
  · exact out_19 hT hall m o a b d h0.1 h0.2
  · exact out_20 hT hall m o a b d h0.1 h0.2
  · show Calls _ _ _ _ fun e w' => e = .returned (.tuple #[.agg #[.int .i64 m, .int .u64 o], .bool (o == all)]) ∧ Below w.heap.size w w'
    cases hq : (o == all) with
    | true => exact out_23y hT hall m o hq a b d h0.1 h0.2
    | false => exact out_23n hT hall m o hq a b d h0.1 h0.2

end Go.Proofs.YtjkbiglnpoeddaaDoor.Vf
