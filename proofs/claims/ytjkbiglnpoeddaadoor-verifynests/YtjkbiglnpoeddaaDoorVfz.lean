/- What Check answers of a few programs, and of nests of loops. -/
import Derived.Test.YtjkbiglnpoeddaaDoorVfy
namespace Go.Proofs.YtjkbiglnpoeddaaDoor.Vf
open Go.RowKit
set_option linter.unusedVariables false
set_option linter.unusedSimpArgs false

theorem ckR_m {s s' : S7} (p : Pg) (h : s.m0 = s'.m0 ∧ s.m1 = s'.m1 ∧ s.m2 = s'.m2 ∧ s.m3 = s'.m3 ∧ s.m4 = s'.m4 ∧ s.m5 = s'.m5 ∧ s.m6 = s'.m6) : ckR s p = ckR s' p := by
  have e : rmB s = rmB s' := by unfold rmB; rw [h.1, h.2.1, h.2.2.1, h.2.2.2.1, h.2.2.2.2.1, h.2.2.2.2.2.1, h.2.2.2.2.2.2]
  unfold ckR lisB
  rw [e, h.2.2.2.1]
/-- A program's lengths. -/
def lenS (m2 m3 m4 m5 m6 : Nat) : S7 := S7.mk none 0 0 none 0 0 none m2 0 none m3 0 none m4 0 none m5 0 none m6 0
def pgO (ins outs sl : List Int) (nm : List (List Int)) (co : List Ins) : Pg := ⟨[], [], ins, outs, sl, nm, co⟩
theorem ck_halt : ckR (lenS 0 0 0 0 1) (pgO [] [] [] [] [(23, 0, 0, 0)]) = ((1, 0), (0, 0), true) := by decide +kernel
theorem ck_not : ckR (lenS 0 0 0 0 2) (pgO [] [] [] [] [(9, 0, 0, 0), (23, 0, 0, 0)]) = ((0, 0), (0, 5), false) := by decide +kernel
theorem ck_nil : ckR (lenS 0 0 0 0 0) (pgO [] [] [] [] []) = ((0, 0), (-1, 1), false) := by decide +kernel
theorem ck_b : ckR (lenS 0 0 0 0 1) (pgO [] [] [] [] [(17, 1, 0, 0)]) = ((0, 0), (0, 2), false) := by decide +kernel
theorem ck_c : ckR (lenS 0 0 0 0 2) (pgO [] [] [] [] [(0, 0, 0, 0), (23, 0, 0, 0)]) = ((0, 0), (0, 3), false) := by decide +kernel
theorem ck_d : ckR (lenS 0 0 0 0 2) (pgO [] [] [] [] [(17, 0, 0, 0), (23, 0, 0, 0)]) = ((0, 0), (0, 4), false) := by decide +kernel
theorem ck_e : ckR (lenS 0 1 0 1 1) (pgO [] [2] [] [[97]] [(23, 0, 0, 0)]) = ((0, 0), (0, 6), false) := by decide +kernel
theorem ck_l : ckR (lenS 1 0 2 0 4) (pgO [6] [] [2, 3] [] [(19, 0, 0, 3), (17, 2, 0, 0), (20, 0, 0, 1), (23, 0, 0, 0)]) = ((34, 0), (0, 0), true) := by decide +kernel
/-- The nest of n loops. -/
def fsN (n : Nat) : Nat → List Ins
  | 0 => []
  | i + 1 => fsN n i ++ [(19, 0, 2 * (i : Int), 2 * (n : Int) - (i : Int))]
def nxN (n : Nat) : Nat → List Ins
  | 0 => []
  | i + 1 => nxN n i ++ [(20, 0, 2 * ((n - 1 - i : Nat) : Int), ((n - 1 - i : Nat) : Int) + 1)]
def slN : Nat → List Int
  | 0 => []
  | i + 1 => slN i ++ [2, 3]
def bkN (n : Nat) : Nat → Nat → Int → Int
  | 0, _, s => s
  | f + 1, i, s => if i < n then (if 4398046511104 < 1 + 16 * (s + 1) then 1 + 16 * (s + 1) else bkN n f (i + 1) (1 + 16 * (s + 1))) else s
def nestP (n : Nat) : Pg := pgO [6] [] (slN n) [] (fsN n n ++ nxN n n ++ [(23, 0, 0, 0)])
theorem ck_nest : ∀ n : Fin 15, ckR (lenS 1 0 (2 * n.val) 0 (2 * n.val + 1)) (nestP n.val) = (if 1099511627776 < bkN n.val n.val 0 0 + 1 then ((0, 0), (-1, 7), false) else ((bkN n.val n.val 0 0 + 1, 0), (0, 0), true)) := by decide +kernel

end Go.Proofs.YtjkbiglnpoeddaaDoor.Vf
