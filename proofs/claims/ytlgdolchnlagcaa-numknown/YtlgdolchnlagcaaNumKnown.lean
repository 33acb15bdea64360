/- Proved: the law NumKnown of package publicanlaw1 returns true (it has no argument), whatever memory it starts in, on every schedule; no condition. -/
import Derived.Test.YtlgdolchnlagcaaW8
import Derived.ProofKit
import Derived.OpenShut
import Derived.ShutString
import Derived.ChangeOld
import Derived.Below
namespace Go.Proofs.Ytlgdolchnlagcaa.numKnown
open Go.ChangeShapes Go.WideShapes Go.ChangeAt Go.RowKit
set_option linter.unusedVariables false

theorem own : ownKnob Try.prog.godebug = none := by kernel_rfl

theorem kn1 (w : World) : Calls Try.prog 9 #[.int .i64 9223372036854775807, .int .i64 1] w fun e w' => e = .returned (.tuple #[.int .i64 0, .bool false]) ∧ w' = w :=
  add_any 9223372036854775807 1 w (by decide) (by decide) (by decide) (by decide)
theorem kn2 (w : World) : Calls Try.prog 10 #[.int .i64 (-9223372036854775808), .int .i64 1] w fun e w' => e = .returned (.tuple #[.int .i64 0, .bool false]) ∧ w' = w :=
  sub_any (-9223372036854775808) 1 w (by decide) (by decide) (by decide) (by decide)
theorem kn3 (w : World) : Calls Try.prog 11 #[.int .i64 4294967296, .int .i64 2147483648] w fun e w' => e = .returned (.tuple #[.int .i64 0, .bool false]) ∧ Below w.heap.size w w' :=
  mul_any 4294967296 2147483648 w (by decide) (by decide) (by decide) (by decide)
theorem kn5 (w : World) : Calls Try.prog 12 #[.int .i64 (-9223372036854775808), .int .i64 (-1)] w fun e w' => e = .returned (.tuple #[.int .i64 0, .bool false]) ∧ w' = w :=
  floor_neg (-9223372036854775808) w (by decide) (by decide)
theorem kn6 (w : World) : Calls Try.prog 13 #[.int .i64 1, .int .i64 1, .int .i64 0] w fun e w' => e = .returned (.tuple #[.int .i64 0, .bool false]) ∧ Below w.heap.size w w' :=
  mulfloor_low 1 1 0 w (by decide) (by decide) (by decide) (by decide) (by decide)
theorem kn7 (w : World) : Calls Try.prog 14 #[.int .i64 1] w fun e w' => e = .returned (.agg #[.int .i64 0, .int .u64 1]) ∧ Below w.heap.size w w' := of_any 1 w (by decide) (by decide)
theorem kn8 (w : World) : Calls Try.prog 15 #[.agg #[.int .i64 0, .int .u64 1], .int .i64 0] w fun e w' => e = .returned (.tuple #[.int .i64 0, .bool false]) ∧ Below w.heap.size w w' :=
  wfloor_low 0 1 0 w (by decide)
theorem kn9 (w : World) : Calls Try.prog 16 #[.agg #[.int .i64 9223372036854775807, .int .u64 18446744073709551615], .agg #[.int .i64 0, .int .u64 1]] w fun e w' => e = .returned (.tuple #[.agg #[.int .i64 0, .int .u64 0], .bool false]) ∧ Below w.heap.size w w' :=
  plus_any 9223372036854775807 18446744073709551615 0 1 w (by decide) (by decide) (by decide) (by decide) (by decide) (by decide) (by decide) (by decide)

set_option maxHeartbeats 1000000 in
theorem walk (w : World) : Calls Try.prog 3 #[] w fun e w' => e = .returned (.bool true) ∧ Below w.heap.size w w' := by
  go_enter Try.func3, Try.ntmps3
  go_wp2_with fail
  refine (awake_any _).mono ?_
  rintro e w1 ⟨rfl, hb1⟩
  go_wp2_with fail
  refine (kn1 _).mono ?_
  rintro e w2 ⟨rfl, rfl⟩
  go_wp2_with fail
  refine (kn2 _).mono ?_
  rintro e w3 ⟨rfl, rfl⟩
  go_wp2_with fail
  refine (kn3 _).mono ?_
  rintro e w4 ⟨rfl, hb4⟩
  go_wp2_with fail
  refine (floor_zero _ _).mono ?_
  rintro e w5 ⟨rfl, rfl⟩
  go_wp2_with fail
  refine (kn5 _).mono ?_
  rintro e w6 ⟨rfl, rfl⟩
  go_wp2_with fail
  refine (kn6 _).mono ?_
  rintro e w7 ⟨rfl, hb7⟩
  go_wp2_with fail
  refine (kn7 _).mono ?_
  rintro e w8 ⟨rfl, hb8⟩
  go_wp2_with fail
  refine (kn8 _).mono ?_
  rintro e w9 ⟨rfl, hb9⟩
  go_wp2_with fail
  refine (kn7 _).mono ?_
  rintro e w10 ⟨rfl, hb10⟩
  go_wp2_with fail
  refine (kn9 _).mono ?_
  rintro e w11 ⟨rfl, hb11⟩
  have z4 := hb1.trans (hb4.mono hb1.size)
  have z7 := z4.trans (hb7.mono z4.size)
  have z8 := z7.trans (hb8.mono z7.size)
  have z9 := z8.trans (hb9.mono z8.size)
  have z10 := z9.trans (hb10.mono z9.size)
  have z11 := z10.trans (hb11.mono z10.size)
  have Z : Hid _ := z11
  clear z4 z7 z8 z9 z10 z11 hb1 hb4 hb7 hb8 hb9 hb10 hb11
  go_wp2
  go_ret
  exact ⟨rfl, Z.out.alloc Z.out.size _⟩

set_option maxRecDepth 100000 in
theorem lifted (os : Os) (started : os.Started) (H : Type) (enc : TypeId × Value → H) :
    ReturnsInHanded {} Try.checked os 3 .any (Rows.numKnownSpec.pre6 enc Try.prog Try.f3 Rows.numKnownRow.domain false) (Rows.numKnownSpec.post enc Try.prog Try.f3 false true false false) := by
  refine returnsInHanded_of_change (C := Try.checked) own started (by kernel_rfl) Try.func3
    (ChangeSpec.witness6 (enc := enc) (C := Try.checked) false ⟨#[], #[], []⟩ 8 (by kernel_rfl) (by kernel_rfl) (by kernel_rfl) (by kernel_rfl)) ?_
  intro W base args ds gs before hval0 hW hcnd _
  have hW' := hW
  obtain ⟨p, q, hA0, hV, rfl, hfz, hnd⟩ := hW
  have hA : DataW.TrodAll enc Try.prog W 0 (fun _ => true) true Try.f3.params.toList args.toList ds p := hA0
  rw [Try.params3] at hA
  obtain ⟨rfl, rfl, rfl⟩ := trodAll_none hA
  obtain ⟨rfl, rfl⟩ := trodVars_none hV
  clear hA0 hval0
  refine (walk W).mono fun e W' ⟨he, bel⟩ => ?_
  subst he
  exact ⟨_, rfl, _, _, _, [], _, [], hW', trodAll_mk1 (shut_bool Try.underlying4 _), trodAll_mk0, rfl, bel.frame _, fun h => by cases h⟩

theorem over : Rows.numKnownRow.holds Try.pinned (OpenSpec.ofChange Rows.numKnownSpec) :=
  OpenClaim.holds_of_wide 3 Try.f3 rfl rfl rfl rfl rfl rfl rfl ⟨rfl, rfl, rfl, rfl, rfl⟩ rfl rfl rfl rfl rfl (by kernel_rfl) Try.func3 (by kernel_rfl)
    (of_decide_eq_true (by kernel_rfl)) (by unfold Func.isWrapper; first | (rw [if_pos (by decide +kernel)]; kernel_rfl) | (rw [if_neg (by decide +kernel)]; exact ⟨rfl, rfl⟩))
    (fun os started H enc _ => lifted os started H enc)

end Go.Proofs.Ytlgdolchnlagcaa.numKnown
namespace Go.Proofs.Ytlgdolchnlagcaa

theorem NumKnown_holds : Rows.NumKnownSaid := numKnown.over

end Go.Proofs.Ytlgdolchnlagcaa
