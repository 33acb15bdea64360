/- The walks, on: what the document tells of a few days. -/
import Derived.Test.YtadifdkengfgeaaW6
namespace Go.Proofs.Ytadifdkengfgeaa
open Go.RowKit
set_option linter.unusedVariables false

theorem isDate_d (n y m d : Int) (h : dateB y m d = true) (e : dayN y m d = n) : IsDate n y m d := by
  have := isDate_of h
  rwa [e] at this

theorem aw1 (w : World) : Calls Try.prog 10 #[.int .i64 2000, .int .i64 3, .int .i64 1] w fun e w' => e = .returned (.tuple #[.int .i64 36584, .bool true]) ∧ w = w' := by
  have h := of_any 2000 3 1 w ⟨by decide, by decide⟩
  rw [show dayN 2000 3 1 = 36584 by decide, show dateB 2000 3 1 = true by decide] at h
  exact h
theorem aw2 (w : World) : Calls Try.prog 10 #[.int .i64 2023, .int .i64 1, .int .i64 31] w fun e w' => e = .returned (.tuple #[.int .i64 44955, .bool true]) ∧ w = w' := by
  have h := of_any 2023 1 31 w ⟨by decide, by decide⟩
  rw [show dayN 2023 1 31 = 44955 by decide, show dateB 2023 1 31 = true by decide] at h
  exact h
theorem aw3 (w : World) : Calls Try.prog 11 #[.int .i64 44955, .int .i64 1] w fun e w' => e = .returned (.tuple #[.int .i64 44983, .bool true]) ∧ w = w' := by
  have h := months_in (n := 44955) (y := 2023) (m := 1) (d := 31) 1 w (isDate_d _ _ _ _ (by decide) (by decide)) (by unfold mB; decide)
  rw [show dayN (mY 2023 1 1) (mM 2023 1 1) (mD 2023 1 31 1) = 44983 by decide] at h
  exact h
theorem aw4 (w : World) : Calls Try.prog 13 #[.int .i64 44983] w fun e w' => e = .returned (.tuple #[.int .i64 2023, .int .i64 2, .int .i64 28, .bool true]) ∧ w = w' :=
  date_is w (isDate_d _ _ _ _ (by decide) (by decide))
theorem aw5 (w : World) : Calls Try.prog 12 #[.string ⟨#[49, 57, 48, 48, 45, 48, 49, 45, 48, 50]⟩] w fun e w' => e = .returned (.tuple #[.int .i64 1, .bool true]) ∧ Below w.heap.size w w' := by
  have h := read_yes 49 57 48 48 45 48 49 45 48 50 w (by decide)
  rw [show dayN (dg4 49 57 48 48) (dg2 48 49) (dg2 48 50) = 1 by decide, show dateB (dg4 49 57 48 48) (dg2 48 49) (dg2 48 50) = true by decide] at h
  exact h
theorem text_0 : strOfNums (dtext 1900 1 1) = ⟨#[49, 57, 48, 48, 45, 48, 49, 45, 48, 49]⟩ := by decide
theorem aw6 (w : World) : Calls Try.prog 14 #[.int .i64 0] w fun e w' => e = .returned (.string ⟨#[49, 57, 48, 48, 45, 48, 49, 45, 48, 49]⟩) ∧ Below w.heap.size w w' := by
  have h := text_yes (n := 0) (y := 1900) (m := 1) (d := 1) w (isDate_d _ _ _ _ (by decide) (by decide))
  rw [text_0] at h
  exact h
theorem aw7 (w : World) : Calls Try.prog 15 #[.int .i64 0] w fun e w' => e = .returned (.int .i64 0) ∧ w = w' := weekday_any 0 w
theorem aw8 (w : World) : Calls Try.prog 21 #[.int .i64 2000] w fun e w' => e = .returned (.bool true) ∧ w = w' := leap_any 2000 w ⟨by decide, by decide⟩
theorem aw9 (w : World) : Calls Try.prog 21 #[.int .i64 1900] w fun e w' => e = .returned (.bool false) ∧ w = w' := leap_any 1900 w ⟨by decide, by decide⟩
theorem aw10 (w : World) : Calls Try.prog 16 #[.int .i64 2024, .int .i64 2] w fun e w' => e = .returned (.int .i64 29) ∧ w = w' := days_any 2024 2 w ⟨by decide, by decide⟩

set_option maxHeartbeats 4000000 in
set_option maxRecDepth 100000 in
theorem awake_any (w : World) : Calls Try.prog 9 #[] w fun e w' => e = .returned (.bool true) ∧ Below w.heap.size w w' := by
  go_enter Try.func9, Try.ntmps9
  go_wp2_with fail
  refine (aw1 _).mono ?_
  rintro e w' ⟨rfl, rfl⟩
  go_wp2_with fail
  refine (aw2 _).mono ?_
  rintro e w' ⟨rfl, rfl⟩
  go_wp2_with fail
  refine (aw3 _).mono ?_
  rintro e w' ⟨rfl, rfl⟩
  go_wp2_with fail
  refine (aw4 _).mono ?_
  rintro e w' ⟨rfl, rfl⟩
  go_wp2_with fail
  refine (aw5 _).mono ?_
  rintro e w5 ⟨rfl, hb5⟩
  go_wp2_with (first | (go_at_call 14; refine (aw6 _).mono ?_; rintro e w6 ⟨rfl, hb6⟩; have S6 := nextB (w := w) hb5 hb6) | (go_at_call 15; refine (aw7 _).mono ?_; rintro e w' ⟨rfl, rfl⟩) | (go_at_call 21; with_reducible refine Calls.mono (aw8 _) ?_; rintro e w' ⟨rfl, rfl⟩) | (go_at_call 21; with_reducible refine Calls.mono (aw9 _) ?_; rintro e w' ⟨rfl, rfl⟩) | (go_at_call 16; refine (aw10 _).mono ?_; rintro e w' ⟨rfl, rfl⟩))
  go_ret
  refine ⟨rfl, ?_⟩
  assumption
end Go.Proofs.Ytadifdkengfgeaa
