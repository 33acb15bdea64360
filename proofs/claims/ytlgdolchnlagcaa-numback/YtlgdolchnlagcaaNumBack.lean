/- Proved: the law NumBack of package publicanlaw1 returns true for every two numbers of 64 bits, whatever memory it starts in, on every schedule; no condition. -/
import Derived.Test.YtlgdolchnlagcaaW9
import Derived.ProofKit
import Derived.OpenShut
import Derived.ShutString
import Derived.ChangeOld
import Derived.Below
namespace Go.Proofs.Ytlgdolchnlagcaa.numBack
open Go.ChangeShapes Go.WideShapes Go.ChangeAt Go.RowKit
set_option linter.unusedVariables false

theorem own : ownKnob Try.prog.godebug = none := by kernel_rfl

/-- What two blocks hold, and that nothing old has turned. -/
structure Two (w1 : World) (b c : Nat) (h l g k : Int) (w' : World) : Prop where
  x : Lies w' b h l
  y : Lies w' c g k
  bl : Below w1.heap.size w1 w'
abbrev TwoP (w1 : World) (b c : Nat) (h l g k : Int) (w' : World) : Prop :=
  w'.cell? ⟨b, 0, none⟩ = some (.int .i64 h) ∧ w'.cell? ⟨b, 1, none⟩ = some (.int .u64 l) ∧ w'.cell? ⟨c, 0, none⟩ = some (.int .i64 g) ∧ w'.cell? ⟨c, 1, none⟩ = some (.int .u64 k) ∧ Two w1 b c h l g k w'
theorem Two.all {w1 w' : World} {b c : Nat} {h l g k : Int} (f : Two w1 b c h l g k w') : TwoP w1 b c h l g k w' := ⟨f.x.hi, f.x.lo, f.y.hi, f.y.lo, f⟩
theorem Two.below {w1 w w' : World} {b c : Nat} {h l g k : Int} (f : Two w1 b c h l g k w) (hb : Below w.heap.size w w') : Two w1 b c h l g k w' :=
  ⟨f.x.below hb, f.y.below hb, f.bl.trans (hb.mono f.bl.size)⟩
theorem Two.drew {w1 w : World} {b c : Nat} {h l g k : Int} (f : Two w1 b c h l g k w) : Two w1 b c h l g k w.drew := f.below (Below.refl _ _).drew
theorem TwoP.keep {w1 w w' : World} {b c : Nat} {h l g k : Int} (f : TwoP w1 b c h l g k w) (hb : Below w.heap.size w w') : TwoP w1 b c h l g k w' := (f.2.2.2.2.below hb).all

/-- The rest of the law, where it goes on behind the quotient. -/
theorem facts {a b : Int} (ha : -M63 ≤ a) (ha' : a < M63) (b1 : 1 ≤ b) (b2 : b < M63) :
    -M63 ≤ a.fdiv b ∧ a.fdiv b < M63 ∧ cmpI (a.fdiv b * b) a ≤ 0 ∧ 0 < cmpI (a.fdiv b * b + b) a := by
  have d := fdiv_bd ha ha' (show b ≠ 0 by omega) (show b ≠ -1 by omega)
  have f : a.fdiv b = a / b := Int.fdiv_eq_ediv_of_nonneg a (by omega)
  have e := Int.mul_ediv_add_emod a b
  have r0 := Int.emod_nonneg a (show b ≠ 0 by omega)
  have r1 := Int.emod_lt_of_pos a (show 0 < b by omega)
  rw [Int.mul_comm] at e
  refine ⟨d.1, d.2, ?_, ?_⟩
  · rw [f]
    rcases Int.lt_or_eq_of_le (show a / b * b ≤ a by omega) with h | h
    · rw [cmpI_lt h]; decide
    · rw [cmpI_eq h]; decide
  · rw [f, cmpI_gt (by omega)]; decide

set_option maxHeartbeats 2000000 in
set_option maxRecDepth 100000 in
theorem walk (a b : Int) (ha : -M63 ≤ a) (ha' : a < M63) (hb : -M63 ≤ b) (hb' : b < M63) (w : World) :
    Calls Try.prog 6 #[.int .i64 a, .int .i64 b] w fun e w' => e = .returned (.bool true) ∧ Below w.heap.size w w' := by
  go_enter Try.func6, Try.ntmps6
  go_wp2_with fail
  refine (awake_any _).mono ?_
  rintro e w1 ⟨rfl, hb1⟩
  go_wp2_with fail
  refine (add_any _ _ _ ha ha' hb hb').mono ?_
  rintro e w2 ⟨rfl, rfl⟩
  go_upto_if 22 with fail
  go_cut [5, 6] (fun _ _ wx => wx = w2)
  case first =>
    by_cases f : fit (a + b) = true
    · have c := clip_yes f
      obtain ⟨k1, k2⟩ := fit_true f
      have e := show a + b - b = a by omega
      have g := fit_yes ha ha'
      have gc := clip_yes g
      go_wp2_with (go_at_call 10; refine (sub_any _ _ _ k1 k2 hb hb').mono ?_; rw [e, g, gc]; rintro e w3 ⟨rfl, rfl⟩)
      all_goals go_meet
      all_goals rfl
    · have f' : fit (a + b) = false := by simpa using f
      go_wp2
      go_meet
      case rel => rfl
  case rest =>
    subst hcut
    by_cases z : b = 0
    · subst z
      go_wp2_with (go_at_call 12; refine (floor_zero _ _).mono ?_; rintro e w3 ⟨rfl, rfl⟩)
      go_ret
      exact ⟨rfl, hb1⟩
    · by_cases z1 : b = -1
      · subst z1
        go_wp2_with (go_at_call 12; refine (floor_neg _ _ ha ha').mono ?_; rintro e w3 ⟨rfl, rfl⟩)
        all_goals go_ret
        all_goals exact ⟨rfl, hb1⟩
      · have c0 : (b == 0) = false := beq_eq_false_iff_ne.2 z
        have c1 : (b == -1) = false := beq_eq_false_iff_ne.2 z1
        by_cases lt : b < 1
        · go_wp2_with (go_at_call 12; refine (floor_any _ _ _ ha ha' c0 c1).mono ?_; rintro e w3 ⟨rfl, rfl⟩)
          all_goals go_ret
          all_goals exact ⟨rfl, hb1⟩
        · obtain ⟨q1, q2, k1, k2⟩ := facts ha ha' (show 1 ≤ b by omega) hb'
          have fq := fit_yes q1 q2
          have cq := clip_yes fq
          have d := mul_bd q1 q2 hb hb'
          go_wp2_with fail
          refine (floor_any _ _ _ ha ha' c0 c1).mono ?_
          rintro e w3 ⟨rfl, rfl⟩
          rw [fq, cq]
          generalize a.fdiv b = q at *
          clear fq cq c0 c1 z z1
          go_wp2_with fail
          refine (of0 _).mono ?_
          rintro e w4 ⟨rfl, hb4⟩
          go_wp2_with fail
          refine (pm0 _ _ _ q1 q2 hb hb').mono ?_
          rintro e w5 ⟨rfl, hb5⟩
          go_upto_region 12 with fail
          have L5 := Lies.new w5 (q * b / M64) (q * b % M64)
          have z5 := (hb1.trans (hb4.mono hb1.size))
          have z6 := z5.trans (hb5.mono z5.size)
          have Z := z6.alloc z6.size (.cells #[.int .i64 (q * b / M64), .int .u64 (q * b % M64)] 28)
          clear z5 z6 hb1 hb4 hb5
          have p1 : -M127 ≤ q * b := by unfold M63 M127 at *; omega
          have p2 : q * b < M127 := by unfold M63 M127 at *; omega
          have p3 : -M127 ≤ b := by unfold M63 M127 at *; omega
          have p4 : b < M127 := by unfold M63 M127 at *; omega
          have p5 : -M127 ≤ q * b + b := by unfold M63 M127 at *; omega
          have p6 : q * b + b < M127 := by unfold M63 M127 at *; omega
          clear d
          go_cut [12, 13] (fun v12 v13 wx => v13 = .bool true ∧ ∃ b12, v12 = .pointer (some ⟨b12, 0, none⟩) ∧ Sum (w5.alloc (.cells #[.int .i64 (q * b / M64), .int .u64 (q * b % M64)] 28)) w5.heap.size (q * b / M64) (q * b % M64) wx b12 ((q * b + b) / M64) ((q * b + b) % M64))
          case first =>
            go_region_with (first | (go_at_call 14; refine (of_any _ _ hb hb').mono ?_; rintro e w6 ⟨rfl, hb6⟩; obtain ⟨hc6, hf6⟩ := bcell hb6; have s6 := hb6.size; try simp at s6; have s6' : w5.heap.size < w6.heap.size := (by omega); have s6'' : w5.heap.size < w6.heap.size + 1 := (by omega); try (have s6x := Nat.lt_of_succ_le s6)) | (go_at_call 16; refine (plus_val _ _ _ p1 p2 p3 p4 p5 p6).mono ?_; rintro e w7 ⟨rfl, hb7⟩; obtain ⟨hc7, hf7⟩ := bcell hb7; have s7 := hb7.size; try simp at s7; try (have s7x := Nat.lt_of_succ_le s7)))
            all_goals go_wp2
            all_goals go_meet
            all_goals first | exact ⟨rfl, _, rfl, sumA L5 _ _ hb6 hb7⟩ | exact ⟨rfl, _, rfl, sumB L5 _ _ hb6 hb7⟩ | exact ⟨rfl, _, rfl, by simpa using sumC L5 ((q * b + b) / M64) ((q * b + b) % M64) hb6 hb7⟩
          case rest =>
            obtain ⟨rfl, b12, rfl, L12, L10, hbx⟩ := hcut
            have F : Two w w5.heap.size b12 (q * b / M64) (q * b % M64) ((q * b + b) / M64) ((q * b + b) % M64) wc := ⟨L10, L12, Z.trans (hbx.mono Z.size)⟩
            have F2 := F.drew
            generalize w5.heap.size = b10 at *
            clear L5 L12 L10 hbx Z
            go_wp2_with fail
            go_region_held3 (TwoP w b10 b12 (q * b / M64) (q * b % M64) ((q * b + b) / M64) ((q * b + b) % M64)) (first | exact F2.all | exact TwoP.keep (by assumption) (by assumption)) (first | (go_at_call 14; refine (of_any _ _ ha ha').mono ?_; rintro e w8 ⟨rfl, hb8⟩) | (go_at_call 27; refine (cmp_val _ _ _).mono ?_; rintro e w9 ⟨rfl, hb9⟩))
            go_wp2
            go_ret
            exact ⟨rfl, (show TwoP w b10 b12 (q * b / M64) (q * b % M64) ((q * b + b) / M64) ((q * b + b) % M64) _ by assumption).2.2.2.2.bl⟩

theorem wf_bd {a : Int} (h : (Lit.int .i64 a).wf = true) : -M63 ≤ a ∧ a < M63 := by
  have := bounds_i64 h
  unfold M63; omega

set_option maxRecDepth 100000 in
theorem lifted (os : Os) (started : os.Started) (H : Type) (enc : TypeId × Value → H) :
    ReturnsInHanded {} Try.checked os 6 .any (Rows.numBackSpec.pre6 enc Try.prog Try.f6 Rows.numBackRow.domain false) (Rows.numBackSpec.post enc Try.prog Try.f6 false true false false) := by
  refine returnsInHanded_of_change (C := Try.checked) own started (by kernel_rfl) Try.func6
    (ChangeSpec.witness6 (enc := enc) (C := Try.checked) false ⟨#[], #[.int .i64 0, .int .i64 0], []⟩ 8 (by kernel_rfl) (by kernel_rfl) (by kernel_rfl) (by kernel_rfl)) ?_
  intro W base args ds gs before hval0 hW hcnd _
  have hval : ∀ (j : Nat) t v, Try.f6.params[j]? = some t → args[j]? = some v → Value.okWide Try.prog W .any base t v := hval0
  have hW' := hW
  obtain ⟨p, q, hA0, hV, rfl, hfz, hnd⟩ := hW
  have hA : DataW.TrodAll enc Try.prog W 0 (fun _ => true) true Try.f6.params.toList args.toList ds p := hA0
  rw [Try.params6] at hA hval
  obtain ⟨v0, vs0, d0, ds0, p0, q0, hargs, rfl, rfl, h0, r0⟩ := trodAll_cons hA
  obtain ⟨v1, vs1, d1, ds1, p1, q1, rfl, rfl, rfl, h1, r1⟩ := trodAll_cons r0
  obtain ⟨rfl, rfl, rfl⟩ := trodAll_nil r1
  obtain rfl : args = #[v0, v1] := by cases args; simp_all
  obtain ⟨rfl, rfl⟩ := trodVars_none hV
  obtain ⟨a0, rfl, rfl, rfl, w0⟩ := open_int Try.underlying2 (hval 0 2 v0 rfl rfl) h0
  obtain ⟨a1, rfl, rfl, rfl, w1⟩ := open_int Try.underlying2 (hval 1 2 v1 rfl rfl) h1
  clear hA0 hval0
  refine (walk a0 a1 (wf_bd w0).1 (wf_bd w0).2 (wf_bd w1).1 (wf_bd w1).2 W).mono fun e W' ⟨he, bel⟩ => ?_
  subst he
  exact ⟨_, rfl, _, _, _, [], _, [], hW', trodAll_mk1 (shut_bool Try.underlying4 _), (trodAll_cons_mk (shut_int Try.underlying2 w0) (trodAll_cons_mk (shut_int Try.underlying2 w1) trodAll_mk0)), rfl, bel.frame _, fun h => by cases h⟩

theorem over : Rows.numBackRow.holds Try.pinned (OpenSpec.ofChange Rows.numBackSpec) :=
  OpenClaim.holds_of_wide 6 Try.f6 rfl rfl rfl rfl rfl rfl rfl ⟨rfl, rfl, rfl, rfl, rfl⟩ rfl rfl rfl rfl rfl (by kernel_rfl) Try.func6 (by kernel_rfl)
    (of_decide_eq_true (by kernel_rfl)) (by unfold Func.isWrapper; first | (rw [if_pos (by decide +kernel)]; kernel_rfl) | (rw [if_neg (by decide +kernel)]; exact ⟨rfl, rfl⟩))
    (fun os started H enc _ => lifted os started H enc)

end Go.Proofs.Ytlgdolchnlagcaa.numBack
namespace Go.Proofs.Ytlgdolchnlagcaa

theorem NumBack_holds : Rows.NumBackSaid := numBack.over

end Go.Proofs.Ytlgdolchnlagcaa
