/- Proved: the law CalSteps of package publicanlaw2 returns true for every number of 64 bits, whatever memory it starts in, on every schedule; no condition. -/
import Derived.Test.YtadifdkengfgeaaW7
import Derived.Test.YtadifdkengfgeaaM2
import Derived.ProofKit
import Derived.OpenShut
import Derived.ShutString
import Derived.ChangeOld
import Derived.Below
namespace Go.Proofs.Ytadifdkengfgeaa.calSteps
open Go.ChangeShapes Go.WideShapes Go.ChangeAt Go.RowKit
set_option linter.unusedVariables false

theorem own : ownKnob Try.prog.godebug = none := by kernel_rfl

set_option maxHeartbeats 4000000 in
theorem walk (n : Int) (hn : I64 n) (w : World) : Calls Try.prog 6 #[.int .i64 n] w fun e w' => e = .returned (.bool true) ∧ Below w.heap.size w w' := by
  cases hd : dayB n
  · go_enter Try.func6, Try.ntmps6
    go_wp2_with (first | (go_at_call 9; refine (awake_any _).mono ?_; rintro e w1 ⟨rfl, hb1⟩) | (go_at_call 13; refine (date_no _ _ hd).mono ?_; rintro e w' ⟨rfl, rfl⟩))
    go_ret
    exact ⟨rfl, hb1⟩
  · obtain ⟨y, m, d, h⟩ := date_ex hd
    obtain ⟨n0, n1⟩ := dayB_of hd
    clear hd
    by_cases c : n = 109572
    · subst c
      go_enter Try.func6, Try.ntmps6
      go_wp2_with (first | (go_at_call 9; refine (awake_any _).mono ?_; rintro e w1 ⟨rfl, hb1⟩) | (go_at_call 13; refine (date_is _ h).mono ?_; rintro e w' ⟨rfl, rfl⟩))
      go_ret
      exact ⟨rfl, hb1⟩
    · have c' : (n == 109572) = false := beqf c
      have hy : I64 y := ⟨by have := h.y0; omega, by have := h.y1; omega⟩
      have y0 := h.y0
      have y1 := h.y1
      have m0 := h.m0
      have m1 := h.m1
      have d0 := h.d0
      have dd : d ≤ 31 := Int.le_trans h.d1 (days_le y m)
      by_cases k : d < days y m
      · have h' := step_day h k
        go_enter Try.func6, Try.ntmps6
        go_wp2_with (first | (go_at_call 9; refine (awake_any _).mono ?_; rintro e w1 ⟨rfl, hb1⟩) | (go_at_call 13; with_reducible refine Calls.mono (date_is _ h) ?_; rintro e w' ⟨rfl, rfl⟩) | (go_at_call 13; with_reducible refine Calls.mono (date_is _ h') ?_; rintro e w' ⟨rfl, rfl⟩) | (go_at_call 16; refine (days_any _ _ _ hy).mono ?_; rintro e w' ⟨rfl, rfl⟩))
        go_ret
        exact ⟨rfl, hb1⟩
      · by_cases k2 : m < 12
        · have h' := step_month h k k2
          go_enter Try.func6, Try.ntmps6
          go_wp2_with (first | (go_at_call 9; refine (awake_any _).mono ?_; rintro e w1 ⟨rfl, hb1⟩) | (go_at_call 13; with_reducible refine Calls.mono (date_is _ h) ?_; rintro e w' ⟨rfl, rfl⟩) | (go_at_call 13; with_reducible refine Calls.mono (date_is _ h') ?_; rintro e w' ⟨rfl, rfl⟩) | (go_at_call 16; refine (days_any _ _ _ hy).mono ?_; rintro e w' ⟨rfl, rfl⟩))
          go_ret
          exact ⟨rfl, hb1⟩
        · have h' := step_year h k k2 (by omega)
          go_enter Try.func6, Try.ntmps6
          go_wp2_with (first | (go_at_call 9; refine (awake_any _).mono ?_; rintro e w1 ⟨rfl, hb1⟩) | (go_at_call 13; with_reducible refine Calls.mono (date_is _ h) ?_; rintro e w' ⟨rfl, rfl⟩) | (go_at_call 13; with_reducible refine Calls.mono (date_is _ h') ?_; rintro e w' ⟨rfl, rfl⟩) | (go_at_call 16; refine (days_any _ _ _ hy).mono ?_; rintro e w' ⟨rfl, rfl⟩))
          go_ret
          exact ⟨rfl, hb1⟩


theorem wf_bd {a : Int} (h : (Lit.int .i64 a).wf = true) : I64 a := by
  have := bounds_i64 h
  unfold I64; omega

set_option maxRecDepth 100000 in
theorem lifted (os : Os) (started : os.Started) (H : Type) (enc : TypeId × Value → H) :
    ReturnsInHanded {} Try.checked os 6 .any (Rows.calStepsSpec.pre6 enc Try.prog Try.f6 Rows.calStepsRow.domain false) (Rows.calStepsSpec.post enc Try.prog Try.f6 false true false false) := by
  refine returnsInHanded_of_change (C := Try.checked) own started (by kernel_rfl) Try.func6
    (ChangeSpec.witness6 (enc := enc) (C := Try.checked) false ⟨#[], #[.int .i64 0], []⟩ 8 (by kernel_rfl) (by kernel_rfl) (by kernel_rfl) (by kernel_rfl)) ?_
  intro W base args ds gs before hval0 hW hcnd _
  have hval : ∀ (j : Nat) t v, Try.f6.params[j]? = some t → args[j]? = some v → Value.okWide Try.prog W .any base t v := hval0
  have hW' := hW
  obtain ⟨p, q, hA0, hV, rfl, hfz, hnd⟩ := hW
  have hA : DataW.TrodAll enc Try.prog W 0 (fun _ => true) true Try.f6.params.toList args.toList ds p := hA0
  rw [Try.params6] at hA hval
  obtain ⟨v0, vs0, d0, ds0, p0, q0, hargs, rfl, rfl, h0, r0⟩ := trodAll_cons hA
  obtain ⟨rfl, rfl, rfl⟩ := trodAll_nil r0
  obtain rfl : args = #[v0] := by cases args; simp_all
  obtain ⟨rfl, rfl⟩ := trodVars_none hV
  obtain ⟨a0, rfl, rfl, rfl, w0⟩ := open_int Try.underlying3 (hval 0 3 v0 rfl rfl) h0
  clear hA0 hval0
  refine (walk a0 (wf_bd w0) W).mono fun e W' ⟨he, bel⟩ => ?_
  subst he
  exact ⟨_, rfl, _, _, _, [], _, [], hW', trodAll_mk1 (shut_bool Try.underlying4 _), (trodAll_cons_mk (shut_int Try.underlying3 w0) trodAll_mk0), rfl, bel.frame _, fun h => by cases h⟩

theorem over : Rows.calStepsRow.holds Try.pinned (OpenSpec.ofChange Rows.calStepsSpec) :=
  OpenClaim.holds_of_wide 6 Try.f6 rfl rfl rfl rfl rfl rfl rfl ⟨rfl, rfl, rfl, rfl, rfl⟩ rfl rfl rfl rfl rfl (by kernel_rfl) Try.func6 (by kernel_rfl)
    (of_decide_eq_true (by kernel_rfl)) (by unfold Func.isWrapper; first | (rw [if_pos (by decide +kernel)]; kernel_rfl) | (rw [if_neg (by decide +kernel)]; exact ⟨rfl, rfl⟩))
    (fun os started H enc _ => lifted os started H enc)

end Go.Proofs.Ytadifdkengfgeaa.calSteps
namespace Go.Proofs.Ytadifdkengfgeaa

theorem CalSteps_holds : Rows.CalStepsSaid := calSteps.over

end Go.Proofs.Ytadifdkengfgeaa
