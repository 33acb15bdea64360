/- Proved: the law CalMonths of package publicanlaw2 returns true for every two numbers of 64 bits, whatever memory it starts in, on every schedule; no condition. -/
import Derived.Test.YtadifdkengfgeaaW7
import Derived.Test.YtadifdkengfgeaaM2
import Derived.ProofKit
import Derived.OpenShut
import Derived.ShutString
import Derived.ChangeOld
import Derived.Below
namespace Go.Proofs.Ytadifdkengfgeaa.calMonths
open Go.ChangeShapes Go.WideShapes Go.ChangeAt Go.RowKit
set_option linter.unusedVariables false

theorem own : ownKnob Try.prog.godebug = none := by kernel_rfl

abbrev Mo (n k r : Int) : Prop := ∀ w : World, Calls Try.prog 11 #[.int .i64 n, .int .i64 k] w fun e w' => e = .returned (.tuple #[.int .i64 r, .bool true]) ∧ w = w'
abbrev Da (n y m d : Int) : Prop := ∀ w : World, Calls Try.prog 13 #[.int .i64 n] w fun e w' => e = .returned (.tuple #[.int .i64 y, .int .i64 m, .int .i64 d, .bool true]) ∧ w = w'

set_option maxHeartbeats 4000000 in
theorem walk_lt (n k a b y m d u v c : Int) (w : World) (k1 : Mo n k a) (k2 : Mo a (-k) b) (k3 : Da n y m d) (k4 : Da a u v c) (hk : -4000 ≤ k) (hk' : k ≤ 4000) (y0 : 1900 ≤ y) (y1 : y ≤ 2199) (m0 : 1 ≤ m) (m1 : m ≤ 12)
    (u0 : 1900 ≤ u) (u1 : u ≤ 2199) (v0 : 1 ≤ v) (v1 : v ≤ 12) (hb : b < n) (hc : c < d) (hs : 12 * u + v = 12 * y + m + k) :
    Calls Try.prog 7 #[.int .i64 n, .int .i64 k] w fun e w' => e = .returned (.bool true) ∧ Below w.heap.size w w' := by
  have K1 : Hid _ := k1
  have K2 : Hid _ := k2
  have K3 : Hid _ := k3
  have K4 : Hid _ := k4
  have e1 : ¬ b > n := by omega
  have e2 : ¬ c > d := by omega
  have e3 : (c == d) = false := beqf (by omega)
  have e4 : (12 * u + v == 12 * y + m + k) = true := by rw [hs]; exact beq_self_eq_true _
  clear k1 k2 k3 k4 hs
  go_enter Try.func7, Try.ntmps7
  go_wp2_with (first | (go_at_call 9; refine (awake_any _).mono ?_; rintro e w1 ⟨rfl, hb1⟩) | (go_at_call 11; with_reducible refine Calls.mono (K1.out _) ?_; rintro e w' ⟨rfl, rfl⟩) | (go_at_call 11; with_reducible refine Calls.mono (K2.out _) ?_; rintro e w' ⟨rfl, rfl⟩) | (go_at_call 13; with_reducible refine Calls.mono (K3.out _) ?_; rintro e w' ⟨rfl, rfl⟩) | (go_at_call 13; with_reducible refine Calls.mono (K4.out _) ?_; rintro e w' ⟨rfl, rfl⟩))
  go_ret
  exact ⟨rfl, hb1⟩

set_option maxHeartbeats 4000000 in
theorem walk_eq (n k a y m d u v : Int) (w : World) (k1 : Mo n k a) (k2 : Mo a (-k) n) (k3 : Da n y m d) (k4 : Da a u v d) (hk : -4000 ≤ k) (hk' : k ≤ 4000) (y0 : 1900 ≤ y) (y1 : y ≤ 2199) (m0 : 1 ≤ m) (m1 : m ≤ 12)
    (u0 : 1900 ≤ u) (u1 : u ≤ 2199) (v0 : 1 ≤ v) (v1 : v ≤ 12) (hs : 12 * u + v = 12 * y + m + k) :
    Calls Try.prog 7 #[.int .i64 n, .int .i64 k] w fun e w' => e = .returned (.bool true) ∧ Below w.heap.size w w' := by
  have K1 : Hid _ := k1
  have K2 : Hid _ := k2
  have K3 : Hid _ := k3
  have K4 : Hid _ := k4
  have e4 : (12 * u + v == 12 * y + m + k) = true := by rw [hs]; exact beq_self_eq_true _
  clear k1 k2 k3 k4 hs
  go_enter Try.func7, Try.ntmps7
  go_wp2_with (first | (go_at_call 9; refine (awake_any _).mono ?_; rintro e w1 ⟨rfl, hb1⟩) | (go_at_call 11; with_reducible refine Calls.mono (K1.out _) ?_; rintro e w' ⟨rfl, rfl⟩) | (go_at_call 11; with_reducible refine Calls.mono (K2.out _) ?_; rintro e w' ⟨rfl, rfl⟩) | (go_at_call 13; with_reducible refine Calls.mono (K3.out _) ?_; rintro e w' ⟨rfl, rfl⟩) | (go_at_call 13; with_reducible refine Calls.mono (K4.out _) ?_; rintro e w' ⟨rfl, rfl⟩))
  go_ret
  exact ⟨rfl, hb1⟩

set_option maxHeartbeats 4000000 in
theorem walk (n k : Int) (hn : I64 n) (hk : I64 k) (w : World) : Calls Try.prog 7 #[.int .i64 n, .int .i64 k] w fun e w' => e = .returned (.bool true) ∧ Below w.heap.size w w' := by
  cases hd : dayB n
  · go_enter Try.func7, Try.ntmps7
    go_wp2_with (first | (go_at_call 9; refine (awake_any _).mono ?_; rintro e w1 ⟨rfl, hb1⟩) | (go_at_call 11; refine (months_none _ _ _ hd).mono ?_; rintro e w' ⟨rfl, rfl⟩))
    go_ret
    exact ⟨rfl, hb1⟩
  · obtain ⟨y, m, d, h⟩ := date_ex hd
    by_cases b : mB y m k
    · have ha := months_date h b
      have kb : -4000 ≤ k ∧ k ≤ 4000 := by
        have := h.y0; have := h.y1; have := h.m0; have := h.m1
        unfold mB mY at b; omega
      have bm := mM_in y m k
      have bd := mD_le y m d k
      have ba := back_date (k := k) h
      have b2 : mB (mY y m k) (mM y m k) (-k) := by unfold mB; rw [back_y h.m0 h.m1]; exact ⟨h.y0, h.y1⟩
      have k2 : Mo (dayN (mY y m k) (mM y m k) (mD y m d k)) (-k) (dayN y m (mD y m d k)) := fun w => by
        have := months_in (-k) w ha b2
        rw [back_d h, back_y h.m0 h.m1, back_m h.m0 h.m1] at this
        exact this
      have k1 : Mo n k (dayN (mY y m k) (mM y m k) (mD y m d k)) := fun w => months_in k w h b
      by_cases c : mD y m d k = d
      · have e : dayN y m (mD y m d k) = n := by rw [ba.2]; omega
        rw [e] at k2
        rw [c] at ha k1 k2
        exact walk_eq n k _ y m d (mY y m k) (mM y m k) w k1 k2 (fun w => date_is w h) (fun w => date_is w ha) kb.1 kb.2 h.y0 h.y1 h.m0 h.m1 b.1 b.2 bm.1 bm.2 (months_sum y m k)
      · exact walk_lt n k _ _ y m d (mY y m k) (mM y m k) (mD y m d k) w k1 k2 (fun w => date_is w h) (fun w => date_is w ha) kb.1 kb.2 h.y0 h.y1 h.m0 h.m1 b.1 b.2 bm.1 bm.2 (by rw [ba.2]; omega) (by omega) (months_sum y m k)
    · go_enter Try.func7, Try.ntmps7
      go_wp2_with (first | (go_at_call 9; refine (awake_any _).mono ?_; rintro e w1 ⟨rfl, hb1⟩) | (go_at_call 11; refine (months_out _ _ h hk b).mono ?_; rintro e w' ⟨rfl, rfl⟩))
      go_ret
      exact ⟨rfl, hb1⟩


theorem wf_bd {a : Int} (h : (Lit.int .i64 a).wf = true) : I64 a := by
  have := bounds_i64 h
  unfold I64; omega

set_option maxRecDepth 100000 in
theorem lifted (os : Os) (started : os.Started) (H : Type) (enc : TypeId × Value → H) :
    ReturnsInHanded {} Try.checked os 7 .any (Rows.calMonthsSpec.pre6 enc Try.prog Try.f7 Rows.calMonthsRow.domain false) (Rows.calMonthsSpec.post enc Try.prog Try.f7 false true false false) := by
  refine returnsInHanded_of_change (C := Try.checked) own started (by kernel_rfl) Try.func7
    (ChangeSpec.witness6 (enc := enc) (C := Try.checked) false ⟨#[], #[.int .i64 0, .int .i64 0], []⟩ 8 (by kernel_rfl) (by kernel_rfl) (by kernel_rfl) (by kernel_rfl)) ?_
  intro W base args ds gs before hval0 hW hcnd _
  have hval : ∀ (j : Nat) t v, Try.f7.params[j]? = some t → args[j]? = some v → Value.okWide Try.prog W .any base t v := hval0
  have hW' := hW
  obtain ⟨p, q, hA0, hV, rfl, hfz, hnd⟩ := hW
  have hA : DataW.TrodAll enc Try.prog W 0 (fun _ => true) true Try.f7.params.toList args.toList ds p := hA0
  rw [Try.params7] at hA hval
  obtain ⟨v0, vs0, d0, ds0, p0, q0, hargs, rfl, rfl, h0, r0⟩ := trodAll_cons hA
  obtain ⟨v1, vs1, d1, ds1, p1, q1, rfl, rfl, rfl, h1, r1⟩ := trodAll_cons r0
  obtain ⟨rfl, rfl, rfl⟩ := trodAll_nil r1
  obtain rfl : args = #[v0, v1] := by cases args; simp_all
  obtain ⟨rfl, rfl⟩ := trodVars_none hV
  obtain ⟨a0, rfl, rfl, rfl, w0⟩ := open_int Try.underlying3 (hval 0 3 v0 rfl rfl) h0
  obtain ⟨a1, rfl, rfl, rfl, w1⟩ := open_int Try.underlying3 (hval 1 3 v1 rfl rfl) h1
  clear hA0 hval0
  refine (walk a0 a1 (wf_bd w0) (wf_bd w1) W).mono fun e W' ⟨he, bel⟩ => ?_
  subst he
  exact ⟨_, rfl, _, _, _, [], _, [], hW', trodAll_mk1 (shut_bool Try.underlying4 _), (trodAll_cons_mk (shut_int Try.underlying3 w0) (trodAll_cons_mk (shut_int Try.underlying3 w1) trodAll_mk0)), rfl, bel.frame _, fun h => by cases h⟩

theorem over : Rows.calMonthsRow.holds Try.pinned (OpenSpec.ofChange Rows.calMonthsSpec) :=
  OpenClaim.holds_of_wide 7 Try.f7 rfl rfl rfl rfl rfl rfl rfl ⟨rfl, rfl, rfl, rfl, rfl⟩ rfl rfl rfl rfl rfl (by kernel_rfl) Try.func7 (by kernel_rfl)
    (of_decide_eq_true (by kernel_rfl)) (by unfold Func.isWrapper; first | (rw [if_pos (by decide +kernel)]; kernel_rfl) | (rw [if_neg (by decide +kernel)]; exact ⟨rfl, rfl⟩))
    (fun os started H enc _ => lifted os started H enc)

end Go.Proofs.Ytadifdkengfgeaa.calMonths
namespace Go.Proofs.Ytadifdkengfgeaa

theorem CalMonths_holds : Rows.CalMonthsSaid := calMonths.over

end Go.Proofs.Ytadifdkengfgeaa
