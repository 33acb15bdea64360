/- Proved: the law CalWeeks of package publicanlaw2 returns true for every number of 64 bits, whatever memory it starts in, on every schedule; no condition. -/
import Derived.Test.YtadifdkengfgeaaW7
import Derived.ProofKit
import Derived.OpenShut
import Derived.ShutString
import Derived.ChangeOld
import Derived.Below
namespace Go.Proofs.Ytadifdkengfgeaa.calWeeks
open Go.ChangeShapes Go.WideShapes Go.ChangeAt Go.RowKit
set_option linter.unusedVariables false

theorem own : ownKnob Try.prog.godebug = none := by kernel_rfl

theorem wkA {n : Int} (w : World) (h0 : 0 ≤ n) (h1 : n ≤ 109565) : Calls Try.prog 15 #[.int .i64 (n + 7)] w fun e w' => e = .returned (.int .i64 (n % 7)) ∧ w = w' := by
  have h := weekday_any (n + 7) w
  rw [show wday (n + 7) = n % 7 by unfold wday; rw [if_pos (dayB_yes (by omega) (by omega))]; omega] at h
  exact h
theorem wkB {n : Int} (w : World) (h0 : 0 ≤ n) (h1 : n ≤ 109565) : Calls Try.prog 15 #[.int .i64 n] w fun e w' => e = .returned (.int .i64 (n % 7)) ∧ w = w' := by
  have h := weekday_any n w
  rw [show wday n = n % 7 by unfold wday; rw [if_pos (dayB_yes (by omega) (by omega))]] at h
  exact h
theorem wkC {n : Int} (w : World) (h0 : 0 ≤ n) (h1 : n ≤ 109565) : Calls Try.prog 15 #[.int .i64 (n + 1)] w fun e w' => e = .returned (.int .i64 ((n % 7 + 1) % 7)) ∧ w = w' := by
  have h := weekday_any (n + 1) w
  rw [show wday (n + 1) = (n % 7 + 1) % 7 by unfold wday; rw [if_pos (dayB_yes (by omega) (by omega))]; omega] at h
  exact h

set_option maxHeartbeats 4000000 in
theorem walk (n : Int) (hn : I64 n) (w : World) : Calls Try.prog 8 #[.int .i64 n] w fun e w' => e = .returned (.bool true) ∧ Below w.heap.size w w' := by
  by_cases c0 : n < 0
  · go_enter Try.func8, Try.ntmps8
    go_wp2_with (go_at_call 9; refine (awake_any _).mono ?_; rintro e w1 ⟨rfl, hb1⟩)
    go_ret
    exact ⟨rfl, hb1⟩
  · by_cases c1 : n > 109565
    · go_enter Try.func8, Try.ntmps8
      go_wp2_with (go_at_call 9; refine (awake_any _).mono ?_; rintro e w1 ⟨rfl, hb1⟩)
      go_ret
      exact ⟨rfl, hb1⟩
    · have d0 : 0 ≤ n := by omega
      have d1 : n ≤ 109565 := by omega
      have d2 : 0 ≤ n % 7 ∧ n % 7 < 7 := by omega
      obtain ⟨e0, e1⟩ := d2
      go_enter Try.func8, Try.ntmps8
      go_wp2_with (first | (go_at_call 9; refine (awake_any _).mono ?_; rintro e w1 ⟨rfl, hb1⟩) | (go_at_call 15; with_reducible refine Calls.mono (wkA _ d0 d1) ?_; rintro e w' ⟨rfl, rfl⟩) | (go_at_call 15; with_reducible refine Calls.mono (wkC _ d0 d1) ?_; rintro e w' ⟨rfl, rfl⟩) | (go_at_call 15; with_reducible refine Calls.mono (wkB _ d0 d1) ?_; rintro e w' ⟨rfl, rfl⟩))
      go_ret
      exact ⟨rfl, hb1⟩


theorem wf_bd {a : Int} (h : (Lit.int .i64 a).wf = true) : I64 a := by
  have := bounds_i64 h
  unfold I64; omega

set_option maxRecDepth 100000 in
theorem lifted (os : Os) (started : os.Started) (H : Type) (enc : TypeId × Value → H) :
    ReturnsInHanded {} Try.checked os 8 .any (Rows.calWeeksSpec.pre6 enc Try.prog Try.f8 Rows.calWeeksRow.domain false) (Rows.calWeeksSpec.post enc Try.prog Try.f8 false true false false) := by
  refine returnsInHanded_of_change (C := Try.checked) own started (by kernel_rfl) Try.func8
    (ChangeSpec.witness6 (enc := enc) (C := Try.checked) false ⟨#[], #[.int .i64 0], []⟩ 8 (by kernel_rfl) (by kernel_rfl) (by kernel_rfl) (by kernel_rfl)) ?_
  intro W base args ds gs before hval0 hW hcnd _
  have hval : ∀ (j : Nat) t v, Try.f8.params[j]? = some t → args[j]? = some v → Value.okWide Try.prog W .any base t v := hval0
  have hW' := hW
  obtain ⟨p, q, hA0, hV, rfl, hfz, hnd⟩ := hW
  have hA : DataW.TrodAll enc Try.prog W 0 (fun _ => true) true Try.f8.params.toList args.toList ds p := hA0
  rw [Try.params8] at hA hval
  obtain ⟨v0, vs0, d0, ds0, p0, q0, hargs, rfl, rfl, h0, r0⟩ := trodAll_cons hA
  obtain ⟨rfl, rfl, rfl⟩ := trodAll_nil r0
  obtain rfl : args = #[v0] := by cases args; simp_all
  obtain ⟨rfl, rfl⟩ := trodVars_none hV
  obtain ⟨a0, rfl, rfl, rfl, w0⟩ := open_int Try.underlying3 (hval 0 3 v0 rfl rfl) h0
  clear hA0 hval0
  refine (walk a0 (wf_bd w0) W).mono fun e W' ⟨he, bel⟩ => ?_
  subst he
  exact ⟨_, rfl, _, _, _, [], _, [], hW', trodAll_mk1 (shut_bool Try.underlying4 _), (trodAll_cons_mk (shut_int Try.underlying3 w0) trodAll_mk0), rfl, bel.frame _, fun h => by cases h⟩

theorem over : Rows.calWeeksRow.holds Try.pinned (OpenSpec.ofChange Rows.calWeeksSpec) :=
  OpenClaim.holds_of_wide 8 Try.f8 rfl rfl rfl rfl rfl rfl rfl ⟨rfl, rfl, rfl, rfl, rfl⟩ rfl rfl rfl rfl rfl (by kernel_rfl) Try.func8 (by kernel_rfl)
    (of_decide_eq_true (by kernel_rfl)) (by unfold Func.isWrapper; first | (rw [if_pos (by decide +kernel)]; kernel_rfl) | (rw [if_neg (by decide +kernel)]; exact ⟨rfl, rfl⟩))
    (fun os started H enc _ => lifted os started H enc)

end Go.Proofs.Ytadifdkengfgeaa.calWeeks
namespace Go.Proofs.Ytadifdkengfgeaa

theorem CalWeeks_holds : Rows.CalWeeksSaid := calWeeks.over

end Go.Proofs.Ytadifdkengfgeaa
