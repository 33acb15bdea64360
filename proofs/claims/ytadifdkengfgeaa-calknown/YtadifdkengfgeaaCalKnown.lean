/- Proved: the law CalKnown of package publicanlaw2 returns true (it takes no argument), whatever memory it starts in, on every schedule; no condition. -/
import Derived.Test.YtadifdkengfgeaaW7
import Derived.ProofKit
import Derived.OpenShut
import Derived.ShutString
import Derived.ChangeOld
import Derived.Below
namespace Go.Proofs.Ytadifdkengfgeaa.calKnown
open Go.ChangeShapes Go.WideShapes Go.ChangeAt Go.RowKit
set_option linter.unusedVariables false

theorem own : ownKnob Try.prog.godebug = none := by kernel_rfl

theorem kn1 (w : World) : Calls Try.prog 10 #[.int .i64 2199, .int .i64 12, .int .i64 31] w fun e w' => e = .returned (.tuple #[.int .i64 109572, .bool true]) ∧ w = w' := by
  have h := of_any 2199 12 31 w ⟨by decide, by decide⟩
  rw [show dayN 2199 12 31 = 109572 by decide, show dateB 2199 12 31 = true by decide] at h
  exact h
theorem kn2 (w : World) : Calls Try.prog 10 #[.int .i64 2200, .int .i64 1, .int .i64 1] w fun e w' => e = .returned (.tuple #[.int .i64 0, .bool false]) ∧ w = w' := by
  have h := of_any 2200 1 1 w ⟨by decide, by decide⟩
  rw [show dayN 2200 1 1 = 0 by decide, show dateB 2200 1 1 = false by decide] at h
  exact h
theorem kn3 (w : World) : Calls Try.prog 10 #[.int .i64 2023, .int .i64 2, .int .i64 29] w fun e w' => e = .returned (.tuple #[.int .i64 0, .bool false]) ∧ w = w' := by
  have h := of_any 2023 2 29 w ⟨by decide, by decide⟩
  rw [show dayN 2023 2 29 = 0 by decide, show dateB 2023 2 29 = false by decide] at h
  exact h
theorem kn4 (w : World) : Calls Try.prog 11 #[.int .i64 0, .int .i64 (-1)] w fun e w' => e = .returned (.tuple #[.int .i64 0, .bool false]) ∧ w = w' :=
  months_out (n := 0) (y := 1900) (m := 1) (d := 1) (-1) w (isDate_d _ _ _ _ (by decide) (by decide)) ⟨by decide, by decide⟩ (by unfold mB; decide)
theorem kn5 (w : World) : Calls Try.prog 12 #[.string ⟨#[50, 48, 50, 51, 45, 50, 45, 48, 49]⟩] w fun e w' => e = .returned (.tuple #[.int .i64 0, .bool false]) ∧ w = w' :=
  read_other _ w (by decide) (by decide)
theorem kn6 (w : World) : Calls Try.prog 13 #[.int .i64 (-1)] w fun e w' => e = .returned (.tuple #[.int .i64 0, .int .i64 0, .int .i64 0, .bool false]) ∧ w = w' := date_no (-1) w (by decide)
theorem kn7 (w : World) : Calls Try.prog 14 #[.int .i64 109573] w fun e w' => e = .returned (.string ByteArray.empty) ∧ w = w' := text_no 109573 w (by decide)
theorem kn8 (w : World) : Calls Try.prog 15 #[.int .i64 (-1)] w fun e w' => e = .returned (.int .i64 (-1)) ∧ w = w' := weekday_any (-1) w
theorem kn9 (w : World) : Calls Try.prog 16 #[.int .i64 2023, .int .i64 13] w fun e w' => e = .returned (.int .i64 0) ∧ w = w' := days_any 2023 13 w ⟨by decide, by decide⟩

set_option maxHeartbeats 4000000 in
theorem walk (w : World) : Calls Try.prog 3 #[] w fun e w' => e = .returned (.bool true) ∧ Below w.heap.size w w' := by
  go_enter Try.func3, Try.ntmps3
  go_wp2_with fail
  refine (awake_any _).mono ?_
  rintro e w1 ⟨rfl, hb1⟩
  go_wp2_with fail
  refine (kn1 _).mono ?_
  rintro e w' ⟨rfl, rfl⟩
  go_wp2_with fail
  refine (kn2 _).mono ?_
  rintro e w' ⟨rfl, rfl⟩
  go_wp2_with fail
  refine (kn3 _).mono ?_
  rintro e w' ⟨rfl, rfl⟩
  go_wp2_with fail
  refine (kn4 _).mono ?_
  rintro e w' ⟨rfl, rfl⟩
  go_wp2_with fail
  refine (kn5 _).mono ?_
  rintro e w' ⟨rfl, rfl⟩
  go_wp2_with fail
  refine (kn6 _).mono ?_
  rintro e w' ⟨rfl, rfl⟩
  go_wp2_with (first | (go_at_call 14; refine (kn7 _).mono ?_; rintro e w' ⟨rfl, rfl⟩) | (go_at_call 15; refine (kn8 _).mono ?_; rintro e w' ⟨rfl, rfl⟩) | (go_at_call 16; refine (kn9 _).mono ?_; rintro e w' ⟨rfl, rfl⟩))
  go_ret
  exact ⟨rfl, hb1⟩


set_option maxRecDepth 100000 in
theorem lifted (os : Os) (started : os.Started) (H : Type) (enc : TypeId × Value → H) :
    ReturnsInHanded {} Try.checked os 3 .any (Rows.calKnownSpec.pre6 enc Try.prog Try.f3 Rows.calKnownRow.domain false) (Rows.calKnownSpec.post enc Try.prog Try.f3 false true false false) := by
  refine returnsInHanded_of_change (C := Try.checked) own started (by kernel_rfl) Try.func3
    (ChangeSpec.witness6 (enc := enc) (C := Try.checked) false ⟨#[], #[], []⟩ 8 (by kernel_rfl) (by kernel_rfl) (by kernel_rfl) (by kernel_rfl)) ?_
  intro W base args ds gs before hval0 hW hcnd _
  have hW' := hW
  obtain ⟨p, q, hA0, hV, rfl, hfz, hnd⟩ := hW
  have hA : DataW.TrodAll enc Try.prog W 0 (fun _ => true) true Try.f3.params.toList args.toList ds p := hA0
  rw [Try.params3] at hA
  obtain ⟨rfl, rfl, rfl⟩ := trodAll_none hA
  obtain ⟨rfl, rfl⟩ := trodVars_none hV
  clear hA0 hval0
  refine (walk W).mono fun e W' ⟨he, bel⟩ => ?_
  subst he
  exact ⟨_, rfl, _, _, _, [], _, [], hW', trodAll_mk1 (shut_bool Try.underlying4 _), trodAll_mk0, rfl, bel.frame _, fun h => by cases h⟩

theorem over : Rows.calKnownRow.holds Try.pinned (OpenSpec.ofChange Rows.calKnownSpec) :=
  OpenClaim.holds_of_wide 3 Try.f3 rfl rfl rfl rfl rfl rfl rfl ⟨rfl, rfl, rfl, rfl, rfl⟩ rfl rfl rfl rfl rfl (by kernel_rfl) Try.func3 (by kernel_rfl)
    (of_decide_eq_true (by kernel_rfl)) (by unfold Func.isWrapper; first | (rw [if_pos (by decide +kernel)]; kernel_rfl) | (rw [if_neg (by decide +kernel)]; exact ⟨rfl, rfl⟩))
    (fun os started H enc _ => lifted os started H enc)

end Go.Proofs.Ytadifdkengfgeaa.calKnown
namespace Go.Proofs.Ytadifdkengfgeaa

theorem CalKnown_holds : Rows.CalKnownSaid := calKnown.over

end Go.Proofs.Ytadifdkengfgeaa
