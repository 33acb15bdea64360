/- Proved: the law CalYears of package publicanlaw2 returns true for every number of 64 bits, whatever memory it starts in, on every schedule; no condition. -/
import Derived.Test.YtadifdkengfgeabW7
import Derived.Test.YtadifdkengfgeabM2
import Derived.ProofKit
import Derived.OpenShut
import Derived.ShutString
import Derived.ChangeOld
import Derived.Below
namespace Go.Proofs.Ytadifdkengfgeab.calYears
open Go.ChangeShapes Go.WideShapes Go.ChangeAt Go.RowKit
set_option linter.unusedVariables false

theorem own : ownKnob Try.prog.godebug = none := by kernel_rfl

abbrev Mo (n k r : Int) (b : Bool) : Prop := ∀ w : World, Calls Try.prog 6 #[.int .i64 n, .int .i64 k] w fun e w' => e = .returned (.tuple #[.int .i64 r, .bool b]) ∧ w = w'
abbrev Da (n y m d : Int) : Prop := ∀ w : World, Calls Try.prog 5 #[.int .i64 n] w fun e w' => e = .returned (.tuple #[.int .i64 y, .int .i64 m, .int .i64 d, .bool true]) ∧ w = w'

set_option maxHeartbeats 4000000 in
theorem walk_last (n m d : Int) (w : World) (k1 : Mo n 12 0 false) (k3 : Da n 2199 m d) :
    Calls Try.prog 3 #[.int .i64 n] w fun e w' => e = .returned (.bool true) ∧ Below w.heap.size w w' := by
  have K1 : Hid _ := k1
  have K3 : Hid _ := k3
  have K4 : Hid _ := k3
  clear k1 k3
  go_enter Try.func3, Try.ntmps3
  go_wp2_with (first | (go_at_call 4; refine (awake_any _).mono ?_; rintro e w1 ⟨rfl, hb1⟩) | (go_at_call 6; with_reducible refine Calls.mono (K1.out _) ?_; rintro e w' ⟨rfl, rfl⟩) | (go_at_call 5; with_reducible refine Calls.mono (K3.out _) ?_; rintro e w' ⟨rfl, rfl⟩) | (go_at_call 5; with_reducible refine Calls.mono (K4.out _) ?_; rintro e w' ⟨rfl, rfl⟩))
  go_ret
  exact ⟨rfl, hb1⟩

set_option maxHeartbeats 4000000 in
theorem walk_29 (n k y : Int) (w : World) (y0 : 1900 ≤ y) (y1 : y < 2199) (k1 : Mo n 12 k true) (k3 : Da n y 2 29) (k4 : Da k (y + 1) 2 28) :
    Calls Try.prog 3 #[.int .i64 n] w fun e w' => e = .returned (.bool true) ∧ Below w.heap.size w w' := by
  have K1 : Hid _ := k1
  have K3 : Hid _ := k3
  have K4 : Hid _ := k4
  have e1 : (y == 2199) = false := beqf (by omega)
  clear k1 k3 k4
  go_enter Try.func3, Try.ntmps3
  go_wp2_with (first | (go_at_call 4; refine (awake_any _).mono ?_; rintro e w1 ⟨rfl, hb1⟩) | (go_at_call 6; with_reducible refine Calls.mono (K1.out _) ?_; rintro e w' ⟨rfl, rfl⟩) | (go_at_call 5; with_reducible refine Calls.mono (K3.out _) ?_; rintro e w' ⟨rfl, rfl⟩) | (go_at_call 5; with_reducible refine Calls.mono (K4.out _) ?_; rintro e w' ⟨rfl, rfl⟩))
  go_ret
  exact ⟨rfl, hb1⟩

set_option maxHeartbeats 4000000 in
theorem walk_same (n k y m d : Int) (w : World) (y0 : 1900 ≤ y) (y1 : y < 2199) (n0 : 0 ≤ n) (n1 : n ≤ 109572) (hk : k - n = 365 ∨ k - n = 366) (hm : ¬ (m = 2 ∧ d = 29)) (k1 : Mo n 12 k true) (k3 : Da n y m d) (k4 : Da k (y + 1) m d) :
    Calls Try.prog 3 #[.int .i64 n] w fun e w' => e = .returned (.bool true) ∧ Below w.heap.size w w' := by
  have K1 : Hid _ := k1
  have K3 : Hid _ := k3
  have K4 : Hid _ := k4
  have e1 : (y == 2199) = false := beqf (by omega)
  clear k1 k3 k4
  obtain ⟨j, rfl⟩ : ∃ j, k = n + j := ⟨k - n, by omega⟩
  have hj : j = 365 ∨ j = 366 := by omega
  clear hk
  by_cases c : m = 2
  · subst c
    have e2 : (d == 29) = false := beqf (by omega)
    clear hm
    rcases hj with rfl | rfl
    · go_enter Try.func3, Try.ntmps3
      go_wp2_with (first | (go_at_call 4; refine (awake_any _).mono ?_; rintro e w1 ⟨rfl, hb1⟩) | (go_at_call 6; with_reducible refine Calls.mono (K1.out _) ?_; rintro e w' ⟨rfl, rfl⟩) | (go_at_call 5; with_reducible refine Calls.mono (K3.out _) ?_; rintro e w' ⟨rfl, rfl⟩) | (go_at_call 5; with_reducible refine Calls.mono (K4.out _) ?_; rintro e w' ⟨rfl, rfl⟩))
      go_ret
      exact ⟨rfl, hb1⟩
    · have e5 : (n + 366 - n == 365) = false := beqf (by omega)
      have e6 : (n + 366 - n == 366) = true := beq_iff_eq.2 (by omega)
      go_enter Try.func3, Try.ntmps3
      go_wp2_with (first | (go_at_call 4; refine (awake_any _).mono ?_; rintro e w1 ⟨rfl, hb1⟩) | (go_at_call 6; with_reducible refine Calls.mono (K1.out _) ?_; rintro e w' ⟨rfl, rfl⟩) | (go_at_call 5; with_reducible refine Calls.mono (K3.out _) ?_; rintro e w' ⟨rfl, rfl⟩) | (go_at_call 5; with_reducible refine Calls.mono (K4.out _) ?_; rintro e w' ⟨rfl, rfl⟩))
      go_ret
      exact ⟨rfl, hb1⟩
  · have e2 : (m == 2) = false := beqf c
    clear hm c
    rcases hj with rfl | rfl
    · go_enter Try.func3, Try.ntmps3
      go_wp2_with (first | (go_at_call 4; refine (awake_any _).mono ?_; rintro e w1 ⟨rfl, hb1⟩) | (go_at_call 6; with_reducible refine Calls.mono (K1.out _) ?_; rintro e w' ⟨rfl, rfl⟩) | (go_at_call 5; with_reducible refine Calls.mono (K3.out _) ?_; rintro e w' ⟨rfl, rfl⟩) | (go_at_call 5; with_reducible refine Calls.mono (K4.out _) ?_; rintro e w' ⟨rfl, rfl⟩))
      go_ret
      exact ⟨rfl, hb1⟩
    · have e5 : (n + 366 - n == 365) = false := beqf (by omega)
      have e6 : (n + 366 - n == 366) = true := beq_iff_eq.2 (by omega)
      go_enter Try.func3, Try.ntmps3
      go_wp2_with (first | (go_at_call 4; refine (awake_any _).mono ?_; rintro e w1 ⟨rfl, hb1⟩) | (go_at_call 6; with_reducible refine Calls.mono (K1.out _) ?_; rintro e w' ⟨rfl, rfl⟩) | (go_at_call 5; with_reducible refine Calls.mono (K3.out _) ?_; rintro e w' ⟨rfl, rfl⟩) | (go_at_call 5; with_reducible refine Calls.mono (K4.out _) ?_; rintro e w' ⟨rfl, rfl⟩))
      go_ret
      exact ⟨rfl, hb1⟩

set_option maxHeartbeats 4000000 in
theorem walk (n : Int) (hn : I64 n) (w : World) : Calls Try.prog 3 #[.int .i64 n] w fun e w' => e = .returned (.bool true) ∧ Below w.heap.size w w' := by
  cases hd : dayB n
  · go_enter Try.func3, Try.ntmps3
    go_wp2_with (first | (go_at_call 4; refine (awake_any _).mono ?_; rintro e w1 ⟨rfl, hb1⟩) | (go_at_call 5; refine (date_no _ _ hd).mono ?_; rintro e w' ⟨rfl, rfl⟩) | (go_at_call 6; refine (months_none _ _ _ hd).mono ?_; rintro e w' ⟨rfl, rfl⟩))
    go_ret
    exact ⟨rfl, hb1⟩
  · obtain ⟨y, m, d, h⟩ := date_ex hd
    obtain ⟨n0, n1⟩ := dayB_of hd
    have ey := year_y (y := y) h.m0 h.m1
    have em := year_m (y := y) h.m0 h.m1
    rcases Int.lt_or_eq_of_le h.y1 with c | c
    · have b : mB y m 12 := by unfold mB; rw [ey]; have := h.y0; omega
      have ha := months_date h b
      have k1 : Mo n 12 _ true := fun w => months_in 12 w h b
      by_cases q : m = 2 ∧ d = 29
      · obtain ⟨rfl, rfl⟩ := q
        rw [ey, em, year_d29 h] at ha k1
        exact walk_29 n _ y w h.y0 c k1 (fun w => date_is w h) (fun w => date_is w ha)
      · rw [ey, em, year_d h q] at ha k1
        exact walk_same n _ y m d w h.y0 c n0 n1 (year_n h ha) q k1 (fun w => date_is w h) (fun w => date_is w ha)
    · subst c
      have b : ¬ mB 2199 m 12 := by unfold mB; rw [ey]; omega
      exact walk_last n m d w (fun w => months_out 12 w h ⟨by decide, by decide⟩ b) (fun w => date_is w h)


theorem wf_bd {a : Int} (h : (Lit.int .i64 a).wf = true) : I64 a := by
  have := bounds_i64 h
  unfold I64; omega

set_option maxRecDepth 100000 in
theorem lifted (os : Os) (started : os.Started) (H : Type) (enc : TypeId × Value → H) :
    ReturnsInHanded {} Try.checked os 3 .any (Rows.calYearsSpec.pre6 enc Try.prog Try.f3 Rows.calYearsRow.domain false) (Rows.calYearsSpec.post enc Try.prog Try.f3 false true false false) := by
  refine returnsInHanded_of_change (C := Try.checked) own started (by kernel_rfl) Try.func3
    (ChangeSpec.witness6 (enc := enc) (C := Try.checked) false ⟨#[], #[.int .i64 0], []⟩ 8 (by kernel_rfl) (by kernel_rfl) (by kernel_rfl) (by kernel_rfl)) ?_
  intro W base args ds gs before hval0 hW hcnd _
  have hval : ∀ (j : Nat) t v, Try.f3.params[j]? = some t → args[j]? = some v → Value.okWide Try.prog W .any base t v := hval0
  have hW' := hW
  obtain ⟨p, q, hA0, hV, rfl, hfz, hnd⟩ := hW
  have hA : DataW.TrodAll enc Try.prog W 0 (fun _ => true) true Try.f3.params.toList args.toList ds p := hA0
  rw [Try.params3] at hA hval
  obtain ⟨v0, vs0, d0, ds0, p0, q0, hargs, rfl, rfl, h0, r0⟩ := trodAll_cons hA
  obtain ⟨rfl, rfl, rfl⟩ := trodAll_nil r0
  obtain rfl : args = #[v0] := by cases args; simp_all
  obtain ⟨rfl, rfl⟩ := trodVars_none hV
  obtain ⟨a0, rfl, rfl, rfl, w0⟩ := open_int Try.underlying3 (hval 0 3 v0 rfl rfl) h0
  clear hA0 hval0
  refine (walk a0 (wf_bd w0) W).mono fun e W' ⟨he, bel⟩ => ?_
  subst he
  exact ⟨_, rfl, _, _, _, [], _, [], hW', trodAll_mk1 (shut_bool Try.underlying4 _), (trodAll_cons_mk (shut_int Try.underlying3 w0) trodAll_mk0), rfl, bel.frame _, fun h => by cases h⟩

theorem over : Rows.calYearsRow.holds Try.pinned (OpenSpec.ofChange Rows.calYearsSpec) :=
  OpenClaim.holds_of_wide 3 Try.f3 rfl rfl rfl rfl rfl rfl rfl ⟨rfl, rfl, rfl, rfl, rfl⟩ rfl rfl rfl rfl rfl (by kernel_rfl) Try.func3 (by kernel_rfl)
    (of_decide_eq_true (by kernel_rfl)) (by unfold Func.isWrapper; first | (rw [if_pos (by decide +kernel)]; kernel_rfl) | (rw [if_neg (by decide +kernel)]; exact ⟨rfl, rfl⟩))
    (fun os started H enc _ => lifted os started H enc)

end Go.Proofs.Ytadifdkengfgeab.calYears
namespace Go.Proofs.Ytadifdkengfgeab

theorem CalYears_holds : Rows.CalYearsSaid := calYears.over

end Go.Proofs.Ytadifdkengfgeab
