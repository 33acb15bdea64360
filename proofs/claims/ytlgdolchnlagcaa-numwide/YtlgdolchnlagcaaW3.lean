/- The walks over package num, on. -/
import Derived.Test.YtlgdolchnlagcaaW2
namespace Go.Proofs.Ytlgdolchnlagcaa
open Go.RowKit
set_option linter.unusedVariables false

theorem retI {a b : Int} (h : a = b) : Ending.returned (.int .i64 a) = .returned (.int .i64 b) := by rw [h]

set_option maxHeartbeats 400000 in
theorem cmp_any (h l g k : Int) (w : World) (l1 : 0 ≤ l) (l2 : l < M64) (k1 : 0 ≤ k) (k2 : k < M64) :
    Calls Try.prog 27 #[.agg #[.int .i64 h, .int .u64 l], .agg #[.int .i64 g, .int .u64 k]] w fun e w' => e = .returned (.int .i64 (cmpI (val h l) (val g k))) ∧ Below w.heap.size w w' := by
  have d1 := cmp_cases (h := h) (g := g) l1 l2 k1 k2
  have d2 := cmp_cases' (h := h) (g := g) l1 l2 k1 k2
  have D1 : Hid _ := d1
  have D2 : Hid _ := d2
  clear d1 d2
  go_enter Try.func27, Try.ntmps27
  go_wp2
  · go_ret
    exact ⟨retI (cmpI_lt (D1.out (by omega))).symm, (((Below.refl _ _).alloc (Nat.le_refl _) _).alloc (by simp) _)⟩
  · go_ret
    refine ⟨retI (cmpI_eq ?_).symm, (((Below.refl _ _).alloc (Nat.le_refl _) _).alloc (by simp) _)⟩
    subst_vars; rfl
  · go_ret
    exact ⟨retI (cmpI_gt (D2.out (by omega))).symm, (((Below.refl _ _).alloc (Nat.le_refl _) _).alloc (by simp) _)⟩
  · go_ret
    exact ⟨retI (cmpI_gt (D2.out (by omega))).symm, (((Below.refl _ _).alloc (Nat.le_refl _) _).alloc (by simp) _)⟩
  · go_ret
    exact ⟨retI (cmpI_lt (D1.out (by omega))).symm, (((Below.refl _ _).alloc (Nat.le_refl _) _).alloc (by simp) _)⟩

set_option maxHeartbeats 400000 in
theorem floor_any (a b : Int) (w : World) (ha : -M63 ≤ a) (ha' : a < M63) (h0 : (b == 0) = false) (h1 : (b == -1) = false) :
    Calls Try.prog 12 #[.int .i64 a, .int .i64 b] w fun e w' => e = .returned (.tuple #[.int .i64 (clip (a.fdiv b)), .bool (fit (a.fdiv b))]) ∧ w' = w := by
  have b0 : b ≠ 0 := by simpa using h0
  have b1 : b ≠ -1 := by simpa using h1
  have d := fdiv_bd ha ha' b0 b1
  have t := tdiv_le a b ha ha' b1
  have f := fit_yes d.1 d.2
  have c := clip_yes f
  have D : Hid _ := d
  have T : Hid _ := t
  have F : Hid _ := f
  have C : Hid _ := c
  clear d t f c
  go_enter Try.func12, Try.ntmps12
  go_wp2
  all_goals go_ret2
  all_goals refine ⟨ret2 ?_ F.out.symm, rfl⟩
  all_goals rw [C.out]
  · rename_i hm
    rw [fdiv_same hm, wrap64_id T.out.1 T.out.2]
  · rename_i hm hs
    have e := fdiv_less b0 hm (by have := hs.2; by_cases x : a < 0 <;> by_cases y : b < 0 <;> simp [x, y] at this <;> omega)
    rw [wrap64_id T.out.1 T.out.2, ← e, wrap64_id D.out.1 D.out.2]
  · rename_i hm hs
    have e := fdiv_keep b0 hm (by rcases hs with hs | hs; exact absurd hs (by simp [hm]); by_cases x : a < 0 <;> by_cases y : b < 0 <;> simp [x, y] at hs <;> omega)
    rw [wrap64_id T.out.1 T.out.2, ← e]

set_option maxHeartbeats 400000 in
theorem floor_zero (a : Int) (w : World) :
    Calls Try.prog 12 #[.int .i64 a, .int .i64 0] w fun e w' => e = .returned (.tuple #[.int .i64 0, .bool false]) ∧ w' = w := by
  go_enter Try.func12, Try.ntmps12
  go_wp2
  go_ret2
  exact ⟨rfl, rfl⟩

theorem fdiv_neg1 (a : Int) : a.fdiv (-1) = -a := by
  rw [fdiv_same (by simp)]; simp

set_option maxHeartbeats 400000 in
theorem floor_neg (a : Int) (w : World) (ha : -M63 ≤ a) (ha' : a < M63) :
    Calls Try.prog 12 #[.int .i64 a, .int .i64 (-1)] w fun e w' => e = .returned (.tuple #[.int .i64 (clip (a.fdiv (-1))), .bool (fit (a.fdiv (-1)))]) ∧ w' = w := by
  rw [fdiv_neg1]
  by_cases h : (a == -9223372036854775808) = true
  · have e : a = -M63 := by unfold M63; simpa using h
    have f : fit (-a) = false := fit_no (by unfold M63 at *; omega)
    have c := clip_no f
    rw [f, c]
    clear f c e
    go_enter Try.func12, Try.ntmps12
    go_wp2
    go_ret2
    exact ⟨rfl, rfl⟩
  · have h' : (a == -9223372036854775808) = false := by simpa using h
    have e : a ≠ -9223372036854775808 := by simpa using h
    have f : fit (-a) = true := fit_yes (by unfold M63 at *; omega) (by unfold M63 at *; omega)
    have c := clip_yes f
    have k := fit_true f
    rw [f, c]
    clear f c e h
    have K : Hid _ := k
    clear k
    go_enter Try.func12, Try.ntmps12
    go_wp2
    go_ret2
    refine ⟨ret2 ?_ rfl, rfl⟩
    rw [wrap64_id K.out.1 K.out.2]

end Go.Proofs.Ytlgdolchnlagcaa
