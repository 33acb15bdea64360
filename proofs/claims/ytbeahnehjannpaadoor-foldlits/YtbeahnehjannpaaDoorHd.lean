/- The walks over package num, on. -/
import Derived.Test.YtbeahnehjannpaaDoorHc
namespace Go.Proofs.YtbeahnehjannpaaDoor.Nm
open Go.RowKit
set_option linter.unusedVariables false
set_option linter.unusedSimpArgs false

theorem retI {a b : Int} (h : a = b) : Ending.returned (.int .i64 a) = .returned (.int .i64 b) := by rw [h]

set_option maxHeartbeats 400000 in
theorem floor_any (a b : Int) (w : World) (ha : -M63 ≤ a) (ha' : a < M63) (h0 : (b == 0) = false) (h1 : (b == -1) = false) :
    Calls Tryd.prog 75 #[.int .i64 a, .int .i64 b] w fun e w' => e = .returned (.tuple #[.int .i64 (clip (a.fdiv b)), .bool (fit (a.fdiv b))]) ∧ w' = w := by
  have b0 : b ≠ 0 := by simpa using h0
  have b1 : b ≠ -1 := by simpa using h1
  have d := fdiv_bd ha ha' b0 b1
  have t := tdiv_le a b ha ha' b1
  have f := fit_yes d.1 d.2
  have c := clip_yes f
  have D : Hid _ := d
  have T : Hid _ := t
  have F : Hid _ := f
  have C : Hid _ := c
  clear d t f c
  go_enter Tryd.func75, Tryd.ntmps75
  go_wp2
  all_goals go_ret2
  all_goals refine ⟨ret2 ?_ F.out.symm, rfl⟩
  all_goals rw [C.out]
  · rename_i hm
    rw [fdiv_same hm, wrap64_id T.out.1 T.out.2]
  · rename_i hm hs
    have e := fdiv_less b0 hm (by have := hs.2; by_cases x : a < 0 <;> by_cases y : b < 0 <;> simp [x, y] at this <;> omega)
    rw [wrap64_id T.out.1 T.out.2, ← e, wrap64_id D.out.1 D.out.2]
  · rename_i hm hs
    have e := fdiv_keep b0 hm (by rcases hs with hs | hs; exact absurd hs (by simp [hm]); by_cases x : a < 0 <;> by_cases y : b < 0 <;> simp [x, y] at hs <;> omega)
    rw [wrap64_id T.out.1 T.out.2, ← e]

set_option maxHeartbeats 400000 in
theorem floor_zero (a : Int) (w : World) :
    Calls Tryd.prog 75 #[.int .i64 a, .int .i64 0] w fun e w' => e = .returned (.tuple #[.int .i64 0, .bool false]) ∧ w' = w := by
  go_enter Tryd.func75, Tryd.ntmps75
  go_wp2
  go_ret2
  exact ⟨rfl, rfl⟩

theorem fdiv_neg1 (a : Int) : a.fdiv (-1) = -a := by
  rw [fdiv_same (by simp)]; simp

set_option maxHeartbeats 400000 in
theorem floor_neg (a : Int) (w : World) (ha : -M63 ≤ a) (ha' : a < M63) :
    Calls Tryd.prog 75 #[.int .i64 a, .int .i64 (-1)] w fun e w' => e = .returned (.tuple #[.int .i64 (clip (a.fdiv (-1))), .bool (fit (a.fdiv (-1)))]) ∧ w' = w := by
  rw [fdiv_neg1]
  by_cases h : (a == -9223372036854775808) = true
  · have e : a = -M63 := by unfold M63; simpa using h
    have f : fit (-a) = false := fit_no (by unfold M63 at *; omega)
    have c := clip_no f
    rw [f, c]
    clear f c e
    go_enter Tryd.func75, Tryd.ntmps75
    go_wp2
    go_ret2
    exact ⟨rfl, rfl⟩
  · have h' : (a == -9223372036854775808) = false := by simpa using h
    have e : a ≠ -9223372036854775808 := by simpa using h
    have f : fit (-a) = true := fit_yes (by unfold M63 at *; omega) (by unfold M63 at *; omega)
    have c := clip_yes f
    have k := fit_true f
    rw [f, c]
    clear f c e h
    have K : Hid _ := k
    clear k
    go_enter Tryd.func75, Tryd.ntmps75
    go_wp2
    go_ret2
    refine ⟨ret2 ?_ rfl, rfl⟩
    rw [wrap64_id K.out.1 K.out.2]

end Go.Proofs.YtbeahnehjannpaaDoor.Nm
