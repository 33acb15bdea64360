/- Proved: the law NumChecked of package publicanlaw1 returns true for every three numbers of 64 bits, whatever memory it starts in, on every schedule; no condition. -/
import Derived.Test.YtlgdolchnlagcaaB10
import Derived.ProofKit
import Derived.OpenShut
import Derived.ShutString
import Derived.ChangeOld
import Derived.Below
namespace Go.Proofs.Ytlgdolchnlagcaa.numChecked
open Go.ChangeShapes Go.WideShapes Go.ChangeAt Go.RowKit
set_option linter.unusedVariables false

theorem own : ownKnob Try.prog.godebug = none := by kernel_rfl

def flv (a b : Int) : Int := if b = 0 then 0 else clip (a.fdiv b)
def flb (a b : Int) : Bool := if b = 0 then false else fit (a.fdiv b)
theorem floor_all (a b : Int) (w : World) (ha : -M63 ≤ a) (ha' : a < M63) :
    Calls Try.prog 12 #[.int .i64 a, .int .i64 b] w fun e w' => e = .returned (.tuple #[.int .i64 (flv a b), .bool (flb a b)]) ∧ w' = w := by
  by_cases z : b = 0
  · subst z
    exact floor_zero a w
  · have e1 : flv a b = clip (a.fdiv b) := by simp [flv, z]
    have e2 : flb a b = fit (a.fdiv b) := by simp [flb, z]
    rw [e1, e2]
    by_cases y : b = -1
    · subst y
      exact floor_neg a w ha ha'
    · exact floor_any a b w ha ha' (beq_eq_false_iff_ne.2 z) (beq_eq_false_iff_ne.2 y)
def mfv (a b c : Int) : Int := if 0 < c then clip ((a * b).fdiv c) else 0
def mfb (a b c : Int) : Bool := if 0 < c then fit ((a * b).fdiv c) else false
theorem mulfloor_all (a b c : Int) (w : World) (ha : -M63 ≤ a) (ha' : a < M63) (hb : -M63 ≤ b) (hb' : b < M63) (hc' : c < M63) :
    Calls Try.prog 13 #[.int .i64 a, .int .i64 b, .int .i64 c] w fun e w' => e = .returned (.tuple #[.int .i64 (mfv a b c), .bool (mfb a b c)]) ∧ Below w.heap.size w w' := by
  by_cases z : 0 < c
  · have e1 : mfv a b c = clip (a * b / c) := by simp only [mfv, z, if_true]; rw [Int.fdiv_eq_ediv_of_nonneg _ (by omega)]
    have e2 : mfb a b c = fit (a * b / c) := by simp only [mfb, z, if_true]; rw [Int.fdiv_eq_ediv_of_nonneg _ (by omega)]
    rw [e1, e2]
    exact mulfloor_any a b c w ha ha' hb hb' (by omega) hc'
  · have e1 : mfv a b c = 0 := by simp [mfv, z]
    have e2 : mfb a b c = false := by simp [mfb, z]
    rw [e1, e2]
    exact mulfloor_low a b c w ha ha' hb hb' (by omega)

theorem sm_int {a : Int} (h : -M63 ≤ a) (k : a < M63) : Sm2 a := by
  have : M63 < pw 14 := by decide
  unfold Sm2; omega
theorem sm2 {a : Int} (h : Sm2 a) : Sm a := by
  have : pw 14 < pw 15 := by decide
  unfold Sm2 at h; unfold Sm; omega
theorem sm_big {x : Int} (h : -(M63 * M63) ≤ x) (k : x ≤ M63 * M63) : Sm x := by
  have : M63 * M63 < pw 15 := by decide
  unfold Sm; omega
theorem nz_len {w : World} {neg : Bool} {a : Option Addr} {m cap : Nat} {ds : List Int} {n : Int} (h : Bg w neg a m cap ds n) (z : n ≠ 0) : 0 < m := by
  rcases Nat.eq_zero_or_pos m with e | e
  · have v := h.val
    have : ds = [] := List.length_eq_zero_iff.1 (by rw [h.dg.len]; exact e)
    rw [this] at v
    exfalso; apply z; rw [v]; cases neg <;> rfl
  · exact e

/-- The two numbers by digits, in their places. -/
structure XY (w : World) (p q : Nat) (sx sy : Bool) (ax ay : Option Addr) (nx ny cx cy : Nat) (dx dy : List Int) (a b : Int) (W : World) : Prop where
  x : Sits W p sx ax nx cx
  y : Sits W q sy ay ny cy
  gx : Bg W sx ax nx cx dx a
  gy : Bg W sy ay ny cy dy b
  bl : Below w.heap.size w W
theorem XY.below {w W W' : World} {p q : Nat} {sx sy : Bool} {ax ay : Option Addr} {nx ny cx cy : Nat} {dx dy : List Int} {a b : Int} (h : XY w p q sx sy ax ay nx ny cx cy dx dy a b W) (hb : Below W.heap.size W W') : XY w p q sx sy ax ay nx ny cx cy dx dy a b W' :=
  ⟨h.x.below hb, h.y.below hb, h.gx.below hb, h.gy.below hb, h.bl.trans (hb.mono h.bl.size)⟩

set_option maxHeartbeats 8000000 in
set_option maxRecDepth 100000 in
theorem walk (a b c : Int) (ha : -M63 ≤ a) (ha' : a < M63) (hb : -M63 ≤ b) (hb' : b < M63) (hc : -M63 ≤ c) (hc' : c < M63) (w : World) :
    Calls Try.prog 4 #[.int .i64 a, .int .i64 b, .int .i64 c] w fun e w' => e = .returned (.bool true) ∧ Below w.heap.size w w' := by
  have SA : Hid _ := sm_int ha ha'
  have SB : Hid _ := sm_int hb hb'
  have SC : Hid _ := sm_int hc hc'
  have D : Hid _ := mul_bd ha ha' hb hb'
  have SAB : Hid (Sm (a + b)) := by
    have : M63 + M63 < pw 15 := by decide
    show Sm _; unfold Sm; omega
  have SAmB : Hid (Sm (a + -b)) := by
    have : M63 + M63 < pw 15 := by decide
    show Sm _; unfold Sm; omega
  go_enter Try.func4, Try.ntmps4
  go_wp2_with fail
  refine (awake_any _).mono ?_
  rintro e w1 ⟨rfl, hb1⟩
  go_wp2_with fail
  refine (bof_any _ _ ha ha').mono ?_
  rintro e w2 ⟨⟨sx, ax, nx, cx, dx, rfl, gx, fx⟩, hb2⟩
  have B2 := hb1.trans (hb2.mono hb1.size)
  go_wp2_with fail
  refine (bof_any _ _ hb hb').mono ?_
  rintro e w3 ⟨⟨sy, ay, ny, cy, dy, rfl, gy, fy⟩, hb3⟩
  have X : XY w w2.heap.size w3.heap.size sx sy ax ay nx ny cx cy dx dy a b (w3.alloc (.cells #[.bool sy, .slice ay ny cy] 35)) := by
    have al2 : Below w2.heap.size w2 (w2.alloc (.cells #[.bool sx, .slice ax nx cx] 35)) := (Below.refl _ _).alloc (Nat.le_refl _) _
    have al3 : Below w3.heap.size w3 (w3.alloc (.cells #[.bool sy, .slice ay ny cy] 35)) := (Below.refl _ _).alloc (Nat.le_refl _) _
    have b3 := (B2.trans (al2.mono B2.size))
    have b4 := b3.trans (hb3.mono b3.size)
    exact ⟨((Sits.new w2 sx ax nx cx).below hb3).below al3, Sits.new w3 sy ay ny cy, ((gx.below al2).below hb3).below al3, gy.below al3, b4.trans (al3.mono b4.size)⟩
  have HX : Hid _ := X
  clear X hb1 hb2 hb3 gx gy fx fy B2
  go_wp2_with fail
  refine (add_any _ _ _ ha ha' hb hb').mono ?_
  rintro e w4 ⟨rfl, rfl⟩
  have s0 := HX.out.x.c0
  have s1 := HX.out.x.c1
  have u0 := HX.out.y.c0
  have u1 := HX.out.y.c1
  go_wp2_with fail
  refine (badd_sm HX.out.gx HX.out.gy (sm2 SA.out) (sm2 SB.out)).mono ?_
  rintro e w5 ⟨⟨s5, a5, n5, c5, d5, rfl, g5, f5⟩, hb5⟩
  go_wp2_with fail
  refine (bint_any _ _ _ _ _ _ _ g5 (SAB.out)).mono ?_
  rintro e w6 ⟨rfl, hb6⟩
  have Y : Hid _ := (HX.out.below hb5).below hb6
  clear s0 s1 u0 u1
  clear hb5 hb6 g5 f5 HX
  go_wp2_with fail
  refine (sub_any _ _ _ ha ha' hb hb').mono ?_
  rintro e w7 ⟨rfl, rfl⟩
  have s0 := Y.out.x.c0
  have s1 := Y.out.x.c1
  have u0 := Y.out.y.c0
  have u1 := Y.out.y.c1
  go_upto_region 10 with fail
  generalize w2.heap.size = p at *
  generalize w3.heap.size = q at *
  have R : Rd2 w7 p q sx sy ax ay nx ny cx cy w7 := ⟨s0, s1, u0, u1, Below.refl _ _⟩
  go_cut [11, 12] (fun v11 v12 wx => v11 = .int .i64 (clip (a - b)) ∧ v12 = .bool (fit (a - b)) ∧ Hid (XY w p q sx sy ax ay nx ny cx cy dx dy a b wx))
  case first =>
    go_region_held3 (Rd2 w7 p q sx sy ax ay nx ny cx cy) (first | exact R.mk (Below.refl _ _).drew | exact Rd2.call R (by assumption) (by assumption)) (first | (go_at_call 20; refine (bminus_any _ _ _ _ _ _ _ (Y.out.gy.below (Below.refl _ _).drew)).mono ?_; rintro e w8 ⟨⟨sg1, rfl, g1⟩, hb8⟩) | (go_at_call 19; refine (badd_sm (x := a) (y := -b) (Y.out.gx.below (show Rd2 w7 p q sx sy ax ay nx ny cx cy _ by assumption).2.2.2.2) g1 (sm2 SA.out) ?_).mono ?_; (have := SB.out; unfold Sm2 at this; have : pw 14 < pw 15 := by decide); (unfold Sm; omega); rintro e w9 ⟨⟨sg2, a2, m2, c2, d2, rfl, g2, f2⟩, hb9⟩) | (go_at_call 18; refine (bint_any _ _ _ _ _ _ _ g2 SAmB.out).mono ?_; rintro e w10 ⟨rfl, hb10⟩))
    go_wp2
    go_meet
    case rel => exact ⟨rfl, rfl, Y.out.below (show Rd2 w7 p q sx sy ax ay nx ny cx cy _ by assumption).2.2.2.2⟩
  case rest =>
    obtain ⟨rfl, rfl, Z⟩ := hcut
    clear s0 s1 u0 u1 R Y
    go_wp2_with fail
    refine (mul_any _ _ _ ha ha' hb hb').mono ?_
    rintro e w11 ⟨rfl, hb11⟩
    have Z1 : Hid _ := Z.out.below hb11
    have s0 := Z1.out.x.c0
    have s1 := Z1.out.x.c1
    have u0 := Z1.out.y.c0
    have u1 := Z1.out.y.c1
    clear hb11 Z
    go_wp2_with fail
    refine (bmul_sm Z1.out.gx Z1.out.gy (sm2 SA.out) (sm2 SB.out)).mono ?_
    rintro e w12 ⟨⟨s5, a5, n5, c5, d5, rfl, g5, f5⟩, hb12⟩
    go_wp2_with fail
    refine (bint_any _ _ _ _ _ _ _ g5 (sm_big D.out.1 D.out.2)).mono ?_
    rintro e w13 ⟨rfl, hb13⟩
    have Z2 : Hid _ := (Z1.out.below hb12).below hb13
    clear s0 s1 u0 u1 hb12 hb13 g5 f5 Z1
    go_wp2_with fail
    refine (floor_all _ _ _ ha ha').mono ?_
    rintro e w14 ⟨rfl, rfl⟩
    have s0 := Z2.out.x.c0
    have s1 := Z2.out.x.c1
    have u0 := Z2.out.y.c0
    have u1 := Z2.out.y.c1
    go_upto_if 90 with fail
    go_cut [11, 12] (fun v11 v12 wx => v11 = .int .i64 (flv a b) ∧ v12 = .bool (flb a b) ∧ Hid (XY w p q sx sy ax ay nx ny cx cy dx dy a b wx))
    case first =>
      by_cases z : b = 0
      · have zb : (b == 0) = true := by rw [z]; rfl
        have e1 : flv a b = 0 := by simp [flv, z]
        have e2 : flb a b = false := by simp [flb, z]
        have E : Hid _ := And.intro e1 e2
        clear z e1 e2
        go_wp2
        go_meet
        case rel => exact ⟨by rw [E.out.1], by rw [E.out.2], Z2.out⟩
      · have zb : (b == 0) = false := beq_eq_false_iff_ne.2 z
        have e1 : flv a b = clip (a.fdiv b) := by simp [flv, z]
        have e2 : flb a b = fit (a.fdiv b) := by simp [flb, z]
        have E : Hid _ := And.intro e1 e2
        have nl := nz_len Z2.out.gy z
        have sf : Hid (Sm (a.fdiv b)) := by
          show Sm _
          have t : -M63 ≤ a.fdiv b ∧ a.fdiv b ≤ M63 := by
            by_cases y : b = -1
            · subst y; rw [fdiv_neg1]; omega
            · have := fdiv_bd ha ha' z y; omega
          have : M63 < pw 15 := by decide
          unfold Sm; omega
        clear z e1 e2
        go_wp2_with fail
        refine (bfloor_walk _ _ _ _ _ _ _ _ _ _ _ _ _ Z2.out.gx Z2.out.gy (sm2 SA.out) SB.out nl).mono ?_
        rintro e w15 ⟨⟨s5, a5, n5, c5, d5, rfl, g5, f5⟩, hb15⟩
        go_wp2_with fail
        refine (bint_any _ _ _ _ _ _ _ g5 sf.out).mono ?_
        rintro e w16 ⟨rfl, hb16⟩
        have Z3 : Hid _ := (Z2.out.below hb15).below hb16
        clear s0 s1 u0 u1 hb15 hb16 g5 f5
        go_wp2
        go_meet
        case rel => exact ⟨by rw [E.out.1], by rw [E.out.2], Z3.out⟩
    case rest =>
      obtain ⟨rfl, rfl, Z4⟩ := hcut
      clear s0 s1 u0 u1 Z2
      go_wp2_with fail
      refine (mulfloor_all _ _ _ _ ha ha' hb hb' hc').mono ?_
      rintro e w17 ⟨rfl, hb17⟩
      have Z5 : Hid _ := Z4.out.below hb17
      have s0 := Z5.out.x.c0
      have s1 := Z5.out.x.c1
      have u0 := Z5.out.y.c0
      have u1 := Z5.out.y.c1
      clear hb17 Z4
      by_cases z : 0 < c
      · have e1 : mfv a b c = clip ((a * b).fdiv c) := by simp [mfv, z]
        have e2 : mfb a b c = fit ((a * b).fdiv c) := by simp [mfb, z]
        have sf : Hid (Sm ((a * b).fdiv c)) := by
          show Sm _
          rw [Int.fdiv_eq_ediv_of_nonneg _ (by omega)]
          have d := D.out
          have : M63 * M63 < pw 15 := by decide
          have h1 : a * b / c ≤ M63 * M63 := by
            rcases Int.lt_or_le (a * b) 0 with n | n
            · have := Int.ediv_neg_of_neg_of_pos n z
              have : (0 : Int) ≤ M63 * M63 := by decide
              omega
            · have := Int.ediv_le_self c n; omega
          have h2 : -(M63 * M63) ≤ a * b / c := by
            have q : -(M63 * M63) / c ≤ a * b / c := Int.ediv_le_ediv z d.1
            have r : -(M63 * M63) ≤ -(M63 * M63) / c := by
              rw [Int.le_ediv_iff_mul_le z]
              have : (0 : Int) ≤ M63 * M63 := by decide
              have := Int.mul_le_mul_of_nonneg_left (show (1 : Int) ≤ c by omega) this
              rw [Int.neg_mul]
              omega
            omega
          unfold Sm; omega
        have E : Hid _ := And.intro e1 e2
        have CZ : Hid (c ≠ 0) := by show c ≠ 0; omega
        clear e1 e2
        go_wp2_with fail
        refine (bmul_sm Z5.out.gx Z5.out.gy (sm2 SA.out) (sm2 SB.out)).mono ?_
        rintro e w18 ⟨⟨s5, a5, n5, c5, d5, rfl, g5, f5⟩, hb18⟩
        go_wp2_with fail
        refine (bof_any _ _ hc hc').mono ?_
        rintro e w19 ⟨⟨s6, a6, n6, c6, d6, rfl, g6, f6⟩, hb19⟩
        have g5' := g5.below hb19
        have nl := nz_len g6 CZ.out
        go_wp2_with fail
        refine (bfloor_walk _ _ _ _ _ _ _ _ _ _ _ _ _ g5' g6 (sm_big D.out.1 D.out.2) SC.out nl).mono ?_
        rintro e w20 ⟨⟨s7, a7, n7, c7, d7, rfl, g7, f7⟩, hb20⟩
        go_wp2_with fail
        refine (bint_any _ _ _ _ _ _ _ g7 sf.out).mono ?_
        rintro e w21 ⟨rfl, hb21⟩
        have b18 := Z5.out.bl.trans (hb18.mono Z5.out.bl.size)
        have b19 := b18.trans (hb19.mono b18.size)
        have b20 := b19.trans (hb20.mono b19.size)
        have b21 := b20.trans (hb21.mono b20.size)
        have BF : Hid _ := b21
        rw [← E.out.1, ← E.out.2]
        clear s0 s1 u0 u1 hb18 hb19 hb20 hb21 g5 g6 g7 f5 f6 f7 g5' b18 b19 b20 b21
        go_wp2
        go_ret
        exact ⟨rfl, BF.out⟩
      · have e1 : mfv a b c = 0 := by simp [mfv, z]
        have e2 : mfb a b c = false := by simp [mfb, z]
        rw [e1, e2]
        have BF : Hid _ := Z5.out.bl
        clear s0 s1 u0 u1 e1 e2
        go_wp2
        go_ret
        exact ⟨rfl, BF.out⟩

theorem wf_bd {a : Int} (h : (Lit.int .i64 a).wf = true) : -M63 ≤ a ∧ a < M63 := by
  have := bounds_i64 h
  unfold M63; omega

set_option maxRecDepth 100000 in
theorem lifted (os : Os) (started : os.Started) (H : Type) (enc : TypeId × Value → H) :
    ReturnsInHanded {} Try.checked os 4 .any (Rows.numCheckedSpec.pre6 enc Try.prog Try.f4 Rows.numCheckedRow.domain false) (Rows.numCheckedSpec.post enc Try.prog Try.f4 false true false false) := by
  refine returnsInHanded_of_change (C := Try.checked) own started (by kernel_rfl) Try.func4
    (ChangeSpec.witness6 (enc := enc) (C := Try.checked) false ⟨#[], #[.int .i64 0, .int .i64 0, .int .i64 0], []⟩ 8 (by kernel_rfl) (by kernel_rfl) (by kernel_rfl) (by kernel_rfl)) ?_
  intro W base args ds gs before hval0 hW hcnd _
  have hval : ∀ (j : Nat) t v, Try.f4.params[j]? = some t → args[j]? = some v → Value.okWide Try.prog W .any base t v := hval0
  have hW' := hW
  obtain ⟨p, q, hA0, hV, rfl, hfz, hnd⟩ := hW
  have hA : DataW.TrodAll enc Try.prog W 0 (fun _ => true) true Try.f4.params.toList args.toList ds p := hA0
  rw [Try.params4] at hA hval
  obtain ⟨v0, vs0, d0, ds0, p0, q0, hargs, rfl, rfl, h0, r0⟩ := trodAll_cons hA
  obtain ⟨v1, vs1, d1, ds1, p1, q1, rfl, rfl, rfl, h1, r1⟩ := trodAll_cons r0
  obtain ⟨v2, vs2, d2, ds2, p2, q2, rfl, rfl, rfl, h2, r2⟩ := trodAll_cons r1
  obtain ⟨rfl, rfl, rfl⟩ := trodAll_nil r2
  obtain rfl : args = #[v0, v1, v2] := by cases args; simp_all
  obtain ⟨rfl, rfl⟩ := trodVars_none hV
  obtain ⟨a0, rfl, rfl, rfl, w0⟩ := open_int Try.underlying2 (hval 0 2 v0 rfl rfl) h0
  obtain ⟨a1, rfl, rfl, rfl, w1⟩ := open_int Try.underlying2 (hval 1 2 v1 rfl rfl) h1
  obtain ⟨a2, rfl, rfl, rfl, w2⟩ := open_int Try.underlying2 (hval 2 2 v2 rfl rfl) h2
  clear hA0 hval0
  refine (walk a0 a1 a2 (wf_bd w0).1 (wf_bd w0).2 (wf_bd w1).1 (wf_bd w1).2 (wf_bd w2).1 (wf_bd w2).2 W).mono fun e W' ⟨he, bel⟩ => ?_
  subst he
  exact ⟨_, rfl, _, _, _, [], _, [], hW', trodAll_mk1 (shut_bool Try.underlying4 _), (trodAll_cons_mk (shut_int Try.underlying2 w0) (trodAll_cons_mk (shut_int Try.underlying2 w1) (trodAll_cons_mk (shut_int Try.underlying2 w2) trodAll_mk0))), rfl, bel.frame _, fun h => by cases h⟩

theorem over : Rows.numCheckedRow.holds Try.pinned (OpenSpec.ofChange Rows.numCheckedSpec) :=
  OpenClaim.holds_of_wide 4 Try.f4 rfl rfl rfl rfl rfl rfl rfl ⟨rfl, rfl, rfl, rfl, rfl⟩ rfl rfl rfl rfl rfl (by kernel_rfl) Try.func4 (by kernel_rfl)
    (of_decide_eq_true (by kernel_rfl)) (by unfold Func.isWrapper; first | (rw [if_pos (by decide +kernel)]; kernel_rfl) | (rw [if_neg (by decide +kernel)]; exact ⟨rfl, rfl⟩))
    (fun os started H enc _ => lifted os started H enc)

end Go.Proofs.Ytlgdolchnlagcaa.numChecked
namespace Go.Proofs.Ytlgdolchnlagcaa

theorem NumChecked_holds : Rows.NumCheckedSaid := numChecked.over

end Go.Proofs.Ytlgdolchnlagcaa
