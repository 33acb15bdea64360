/- Proved: the law CalDays of package publicanlaw2 returns true for every five numbers of 64 bits, whatever memory it starts in, on every schedule; no condition. -/
import Derived.Test.YtadifdkengfgeaaW7
import Derived.Test.YtadifdkengfgeaaR2
import Derived.ProofKit
import Derived.OpenShut
import Derived.ShutString
import Derived.ChangeOld
import Derived.Below
namespace Go.Proofs.Ytadifdkengfgeaa.calDays
open Go.ChangeShapes Go.WideShapes Go.ChangeAt Go.RowKit
set_option linter.unusedVariables false

theorem own : ownKnob Try.prog.godebug = none := by kernel_rfl

set_option maxHeartbeats 8000000 in
theorem walk_day (n y m d k a b c o q dd : Int) (fine good l : Bool) (T : ByteArray) (w : World) (n0 : 0 ≤ n) (k1 : ∀ w : World, Calls Try.prog 13 #[.int .i64 n] w fun e w' => e = .returned (.tuple #[.int .i64 a, .int .i64 b, .int .i64 c, .bool true]) ∧ w = w')
    (k2 : ∀ w : World, Calls Try.prog 17 #[.int .i64 n] w fun e w' => e = .returned (.tuple #[.int .i64 a, .int .i64 b, .int .i64 c, .bool true]) ∧ w = w')
    (k3 : ∀ w : World, Calls Try.prog 10 #[.int .i64 y, .int .i64 m, .int .i64 d] w fun e w' => e = .returned (.tuple #[.int .i64 o, .bool fine]) ∧ w = w')
    (k4 : ∀ w : World, Calls Try.prog 18 #[.int .i64 y, .int .i64 m, .int .i64 d] w fun e w' => e = .returned (.tuple #[.int .i64 o, .bool fine]) ∧ w = w')
    (k5 : ∀ w : World, Calls Try.prog 11 #[.int .i64 n, .int .i64 k] w fun e w' => e = .returned (.tuple #[.int .i64 q, .bool good]) ∧ w = w')
    (k6 : ∀ w : World, Calls Try.prog 19 #[.int .i64 n, .int .i64 k] w fun e w' => e = .returned (.tuple #[.int .i64 q, .bool good]) ∧ w = w')
    (k7 : ∀ w : World, Calls Try.prog 15 #[.int .i64 n] w fun e w' => e = .returned (.int .i64 (n % 7)) ∧ w = w')
    (k8 : ∀ w : World, Calls Try.prog 14 #[.int .i64 n] w fun e w' => e = .returned (.string T) ∧ Below w.heap.size w w')
    (k9 : ∀ w : World, Calls Try.prog 20 #[.int .i64 n] w fun e w' => e = .returned (.string T) ∧ Below w.heap.size w w')
    (k10 : ∀ w : World, Calls Try.prog 21 #[.int .i64 y] w fun e w' => e = .returned (.bool l) ∧ w = w')
    (k11 : ∀ w : World, Calls Try.prog 22 #[.int .i64 y] w fun e w' => e = .returned (.bool l) ∧ w = w')
    (k12 : ∀ w : World, Calls Try.prog 16 #[.int .i64 y, .int .i64 m] w fun e w' => e = .returned (.int .i64 dd) ∧ w = w')
    (k13 : ∀ w : World, Calls Try.prog 23 #[.int .i64 y, .int .i64 m] w fun e w' => e = .returned (.int .i64 dd) ∧ w = w') :
    Calls Try.prog 4 #[.int .i64 n, .int .i64 y, .int .i64 m, .int .i64 d, .int .i64 k] w fun e w' => e = .returned (.bool true) ∧ Below w.heap.size w w' := by
  have K1 : Hid _ := k1
  have K2 : Hid _ := k2
  have K3 : Hid _ := k3
  have K4 : Hid _ := k4
  have K5 : Hid _ := k5
  have K6 : Hid _ := k6
  have K7 : Hid _ := k7
  have K8 : Hid _ := k8
  have K9 : Hid _ := k9
  have K10 : Hid _ := k10
  have K11 : Hid _ := k11
  have K12 : Hid _ := k12
  have K13 : Hid _ := k13
  clear k1 k2 k3 k4 k5 k6 k7 k8 k9 k10 k11 k12 k13
  go_enter Try.func4, Try.ntmps4
  go_wp2_with (first | (go_at_call 9; refine (awake_any _).mono ?_; rintro e w1 ⟨rfl, hb1⟩) | (go_at_call 13; with_reducible refine Calls.mono (K1.out _) ?_; rintro e w' ⟨rfl, rfl⟩) | (go_at_call 17; with_reducible refine Calls.mono (K2.out _) ?_; rintro e w' ⟨rfl, rfl⟩) | (go_at_call 10; with_reducible refine Calls.mono (K3.out _) ?_; rintro e w' ⟨rfl, rfl⟩) | (go_at_call 18; with_reducible refine Calls.mono (K4.out _) ?_; rintro e w' ⟨rfl, rfl⟩) | (go_at_call 11; with_reducible refine Calls.mono (K5.out _) ?_; rintro e w' ⟨rfl, rfl⟩) | (go_at_call 19; with_reducible refine Calls.mono (K6.out _) ?_; rintro e w' ⟨rfl, rfl⟩) | (go_at_call 15; with_reducible refine Calls.mono (K7.out _) ?_; rintro e w' ⟨rfl, rfl⟩) | (go_at_call 14; with_reducible refine Calls.mono (K8.out _) ?_; rintro e w2 ⟨rfl, hbw2⟩) | (go_at_call 20; with_reducible refine Calls.mono (K9.out _) ?_; rintro e w3 ⟨rfl, hbw3⟩) | (go_at_call 21; with_reducible refine Calls.mono (K10.out _) ?_; rintro e w' ⟨rfl, rfl⟩) | (go_at_call 22; with_reducible refine Calls.mono (K11.out _) ?_; rintro e w' ⟨rfl, rfl⟩) | (go_at_call 16; with_reducible refine Calls.mono (K12.out _) ?_; rintro e w' ⟨rfl, rfl⟩) | (go_at_call 23; with_reducible refine Calls.mono (K13.out _) ?_; rintro e w' ⟨rfl, rfl⟩))
  go_ret
  exact ⟨rfl, nextB (nextB hb1 hbw2) hbw3⟩

set_option maxHeartbeats 8000000 in
theorem walk_none (n y m d k a b c o q dd : Int) (fine good l : Bool) (T : ByteArray) (w : World)  (k1 : ∀ w : World, Calls Try.prog 13 #[.int .i64 n] w fun e w' => e = .returned (.tuple #[.int .i64 a, .int .i64 b, .int .i64 c, .bool false]) ∧ w = w')
    (k2 : ∀ w : World, Calls Try.prog 17 #[.int .i64 n] w fun e w' => e = .returned (.tuple #[.int .i64 a, .int .i64 b, .int .i64 c, .bool false]) ∧ w = w')
    (k3 : ∀ w : World, Calls Try.prog 10 #[.int .i64 y, .int .i64 m, .int .i64 d] w fun e w' => e = .returned (.tuple #[.int .i64 o, .bool fine]) ∧ w = w')
    (k4 : ∀ w : World, Calls Try.prog 18 #[.int .i64 y, .int .i64 m, .int .i64 d] w fun e w' => e = .returned (.tuple #[.int .i64 o, .bool fine]) ∧ w = w')
    (k5 : ∀ w : World, Calls Try.prog 11 #[.int .i64 n, .int .i64 k] w fun e w' => e = .returned (.tuple #[.int .i64 q, .bool good]) ∧ w = w')
    (k6 : ∀ w : World, Calls Try.prog 19 #[.int .i64 n, .int .i64 k] w fun e w' => e = .returned (.tuple #[.int .i64 q, .bool good]) ∧ w = w')
    (k7 : ∀ w : World, Calls Try.prog 15 #[.int .i64 n] w fun e w' => e = .returned (.int .i64 (-1)) ∧ w = w')
    (k8 : ∀ w : World, Calls Try.prog 14 #[.int .i64 n] w fun e w' => e = .returned (.string T) ∧ Below w.heap.size w w')
    (k9 : ∀ w : World, Calls Try.prog 20 #[.int .i64 n] w fun e w' => e = .returned (.string T) ∧ Below w.heap.size w w')
    (k10 : ∀ w : World, Calls Try.prog 21 #[.int .i64 y] w fun e w' => e = .returned (.bool l) ∧ w = w')
    (k11 : ∀ w : World, Calls Try.prog 22 #[.int .i64 y] w fun e w' => e = .returned (.bool l) ∧ w = w')
    (k12 : ∀ w : World, Calls Try.prog 16 #[.int .i64 y, .int .i64 m] w fun e w' => e = .returned (.int .i64 dd) ∧ w = w')
    (k13 : ∀ w : World, Calls Try.prog 23 #[.int .i64 y, .int .i64 m] w fun e w' => e = .returned (.int .i64 dd) ∧ w = w') :
    Calls Try.prog 4 #[.int .i64 n, .int .i64 y, .int .i64 m, .int .i64 d, .int .i64 k] w fun e w' => e = .returned (.bool true) ∧ Below w.heap.size w w' := by
  have K1 : Hid _ := k1
  have K2 : Hid _ := k2
  have K3 : Hid _ := k3
  have K4 : Hid _ := k4
  have K5 : Hid _ := k5
  have K6 : Hid _ := k6
  have K7 : Hid _ := k7
  have K8 : Hid _ := k8
  have K9 : Hid _ := k9
  have K10 : Hid _ := k10
  have K11 : Hid _ := k11
  have K12 : Hid _ := k12
  have K13 : Hid _ := k13
  clear k1 k2 k3 k4 k5 k6 k7 k8 k9 k10 k11 k12 k13
  go_enter Try.func4, Try.ntmps4
  go_wp2_with (first | (go_at_call 9; refine (awake_any _).mono ?_; rintro e w1 ⟨rfl, hb1⟩) | (go_at_call 13; with_reducible refine Calls.mono (K1.out _) ?_; rintro e w' ⟨rfl, rfl⟩) | (go_at_call 17; with_reducible refine Calls.mono (K2.out _) ?_; rintro e w' ⟨rfl, rfl⟩) | (go_at_call 10; with_reducible refine Calls.mono (K3.out _) ?_; rintro e w' ⟨rfl, rfl⟩) | (go_at_call 18; with_reducible refine Calls.mono (K4.out _) ?_; rintro e w' ⟨rfl, rfl⟩) | (go_at_call 11; with_reducible refine Calls.mono (K5.out _) ?_; rintro e w' ⟨rfl, rfl⟩) | (go_at_call 19; with_reducible refine Calls.mono (K6.out _) ?_; rintro e w' ⟨rfl, rfl⟩) | (go_at_call 15; with_reducible refine Calls.mono (K7.out _) ?_; rintro e w' ⟨rfl, rfl⟩) | (go_at_call 14; with_reducible refine Calls.mono (K8.out _) ?_; rintro e w2 ⟨rfl, hbw2⟩) | (go_at_call 20; with_reducible refine Calls.mono (K9.out _) ?_; rintro e w3 ⟨rfl, hbw3⟩) | (go_at_call 21; with_reducible refine Calls.mono (K10.out _) ?_; rintro e w' ⟨rfl, rfl⟩) | (go_at_call 22; with_reducible refine Calls.mono (K11.out _) ?_; rintro e w' ⟨rfl, rfl⟩) | (go_at_call 16; with_reducible refine Calls.mono (K12.out _) ?_; rintro e w' ⟨rfl, rfl⟩) | (go_at_call 23; with_reducible refine Calls.mono (K13.out _) ?_; rintro e w' ⟨rfl, rfl⟩))
  go_ret
  exact ⟨rfl, nextB (nextB hb1 hbw2) hbw3⟩

theorem text_nob (n : Int) (w : World) (h : dayB n = false) :
    Calls Try.prog 14 #[.int .i64 n] w fun e w' => e = .returned (.string ByteArray.empty) ∧ Below w.heap.size w w' := by
  refine (text_no n w h).mono ?_
  rintro e w' ⟨rfl, rfl⟩
  exact ⟨rfl, Below.refl _ _⟩
theorem rtext_nob (n : Int) (w : World) (h : dayB n = false) :
    Calls Try.prog 20 #[.int .i64 n] w fun e w' => e = .returned (.string ByteArray.empty) ∧ Below w.heap.size w w' := by
  refine (rtext_no n w h).mono ?_
  rintro e w' ⟨rfl, rfl⟩
  exact ⟨rfl, Below.refl _ _⟩

theorem walk (n y m d k : Int) (hn : I64 n) (hy : I64 y) (hm : I64 m) (hd : I64 d) (hk : I64 k) (w : World) :
    Calls Try.prog 4 #[.int .i64 n, .int .i64 y, .int .i64 m, .int .i64 d, .int .i64 k] w fun e w' => e = .returned (.bool true) ∧ Below w.heap.size w w' := by
  cases z : dayB n
  · exact walk_none n y m d k 0 0 0 _ 0 _ _ false _ _ w (fun w => date_no n w z) (fun w => rdate_no n w z) (fun w => of_any y m d w hy) (fun w => rday_any y m d w hy) (fun w => months_none n k w z) (fun w => rmonths_none n k w z)
      (fun w => by have r := weekday_any n w; rw [show wday n = -1 by unfold wday; rw [z]; rfl] at r; exact r) (fun w => text_nob n w z) (fun w => rtext_nob n w z) (fun w => leap_any y w hy) (fun w => rleap_any y w hy) (fun w => days_any y m w hy) (fun w => rdays_any y m w hy)
  · obtain ⟨a, b, c, h⟩ := date_ex z
    have k7 : ∀ w : World, Calls Try.prog 15 #[.int .i64 n] w fun e w' => e = .returned (.int .i64 (n % 7)) ∧ w = w' := fun w => by
      have r := weekday_any n w; rw [show wday n = n % 7 by unfold wday; rw [z]; rfl] at r; exact r
    by_cases e : mB a b k
    · exact walk_day n y m d k a b c _ _ _ _ true _ _ w (dayB_of z).1 (fun w => date_is w h) (fun w => rdate_is w h) (fun w => of_any y m d w hy) (fun w => rday_any y m d w hy) (fun w => months_in k w h e) (fun w => rmonths_in k w h e)
        k7 (fun w => text_yes w h) (fun w => rtext_yes w h) (fun w => leap_any y w hy) (fun w => rleap_any y w hy) (fun w => days_any y m w hy) (fun w => rdays_any y m w hy)
    · exact walk_day n y m d k a b c _ 0 _ _ false _ _ w (dayB_of z).1 (fun w => date_is w h) (fun w => rdate_is w h) (fun w => of_any y m d w hy) (fun w => rday_any y m d w hy) (fun w => months_out k w h hk e) (fun w => rmonths_out k w h e)
        k7 (fun w => text_yes w h) (fun w => rtext_yes w h) (fun w => leap_any y w hy) (fun w => rleap_any y w hy) (fun w => days_any y m w hy) (fun w => rdays_any y m w hy)


theorem wf_bd {a : Int} (h : (Lit.int .i64 a).wf = true) : I64 a := by
  have := bounds_i64 h
  unfold I64; omega

set_option maxRecDepth 100000 in
theorem lifted (os : Os) (started : os.Started) (H : Type) (enc : TypeId × Value → H) :
    ReturnsInHanded {} Try.checked os 4 .any (Rows.calDaysSpec.pre6 enc Try.prog Try.f4 Rows.calDaysRow.domain false) (Rows.calDaysSpec.post enc Try.prog Try.f4 false true false false) := by
  refine returnsInHanded_of_change (C := Try.checked) own started (by kernel_rfl) Try.func4
    (ChangeSpec.witness6 (enc := enc) (C := Try.checked) false ⟨#[], #[.int .i64 0, .int .i64 0, .int .i64 0, .int .i64 0, .int .i64 0], []⟩ 8 (by kernel_rfl) (by kernel_rfl) (by kernel_rfl) (by kernel_rfl)) ?_
  intro W base args ds gs before hval0 hW hcnd _
  have hval : ∀ (j : Nat) t v, Try.f4.params[j]? = some t → args[j]? = some v → Value.okWide Try.prog W .any base t v := hval0
  have hW' := hW
  obtain ⟨p, q, hA0, hV, rfl, hfz, hnd⟩ := hW
  have hA : DataW.TrodAll enc Try.prog W 0 (fun _ => true) true Try.f4.params.toList args.toList ds p := hA0
  rw [Try.params4] at hA hval
  obtain ⟨v0, vs0, d0, ds0, p0, q0, hargs, rfl, rfl, h0, r0⟩ := trodAll_cons hA
  obtain ⟨v1, vs1, d1, ds1, p1, q1, rfl, rfl, rfl, h1, r1⟩ := trodAll_cons r0
  obtain ⟨v2, vs2, d2, ds2, p2, q2, rfl, rfl, rfl, h2, r2⟩ := trodAll_cons r1
  obtain ⟨v3, vs3, d3, ds3, p3, q3, rfl, rfl, rfl, h3, r3⟩ := trodAll_cons r2
  obtain ⟨v4, vs4, d4, ds4, p4, q4, rfl, rfl, rfl, h4, r4⟩ := trodAll_cons r3
  obtain ⟨rfl, rfl, rfl⟩ := trodAll_nil r4
  obtain rfl : args = #[v0, v1, v2, v3, v4] := by cases args; simp_all
  obtain ⟨rfl, rfl⟩ := trodVars_none hV
  obtain ⟨a0, rfl, rfl, rfl, w0⟩ := open_int Try.underlying3 (hval 0 3 v0 rfl rfl) h0
  obtain ⟨a1, rfl, rfl, rfl, w1⟩ := open_int Try.underlying3 (hval 1 3 v1 rfl rfl) h1
  obtain ⟨a2, rfl, rfl, rfl, w2⟩ := open_int Try.underlying3 (hval 2 3 v2 rfl rfl) h2
  obtain ⟨a3, rfl, rfl, rfl, w3⟩ := open_int Try.underlying3 (hval 3 3 v3 rfl rfl) h3
  obtain ⟨a4, rfl, rfl, rfl, w4⟩ := open_int Try.underlying3 (hval 4 3 v4 rfl rfl) h4
  clear hA0 hval0
  refine (walk a0 a1 a2 a3 a4 (wf_bd w0) (wf_bd w1) (wf_bd w2) (wf_bd w3) (wf_bd w4) W).mono fun e W' ⟨he, bel⟩ => ?_
  subst he
  exact ⟨_, rfl, _, _, _, [], _, [], hW', trodAll_mk1 (shut_bool Try.underlying4 _), (trodAll_cons_mk (shut_int Try.underlying3 w0) (trodAll_cons_mk (shut_int Try.underlying3 w1) (trodAll_cons_mk (shut_int Try.underlying3 w2) (trodAll_cons_mk (shut_int Try.underlying3 w3) (trodAll_cons_mk (shut_int Try.underlying3 w4) trodAll_mk0))))), rfl, bel.frame _, fun h => by cases h⟩

theorem over : Rows.calDaysRow.holds Try.pinned (OpenSpec.ofChange Rows.calDaysSpec) :=
  OpenClaim.holds_of_wide 4 Try.f4 rfl rfl rfl rfl rfl rfl rfl ⟨rfl, rfl, rfl, rfl, rfl⟩ rfl rfl rfl rfl rfl (by kernel_rfl) Try.func4 (by kernel_rfl)
    (of_decide_eq_true (by kernel_rfl)) (by unfold Func.isWrapper; first | (rw [if_pos (by decide +kernel)]; kernel_rfl) | (rw [if_neg (by decide +kernel)]; exact ⟨rfl, rfl⟩))
    (fun os started H enc _ => lifted os started H enc)

end Go.Proofs.Ytadifdkengfgeaa.calDays
namespace Go.Proofs.Ytadifdkengfgeaa

theorem CalDays_holds : Rows.CalDaysSaid := calDays.over

end Go.Proofs.Ytadifdkengfgeaa
