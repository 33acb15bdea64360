/- The walks over package publicanref1, on: a number by digits as one of 64 bits. -/
import Derived.Test.YtlgdolchnlagcaaB7
namespace Go.Proofs.Ytlgdolchnlagcaa
open Go.RowKit Go.Deep
set_option linter.unusedVariables false

/-- Small enough by far. -/
def Sm (x : Int) : Prop := -pw 15 < x ∧ x < pw 15
theorem Bg.sm {w : World} {neg : Bool} {a : Option Addr} {m cap : Nat} {ds : List Int} {n : Int} (h : Bg w neg a m cap ds n) (s : Sm n) : dval ds < pw 15 := by
  have v := h.val
  obtain ⟨s1, s2⟩ := s
  cases neg
  · rw [sgn_false] at v; omega
  · rw [sgn_true] at v; omega
theorem pw30 : pw 15 * pw 15 = pw 30 := by decide
theorem pw15 : pw 15 + pw 15 < pw 32 := by decide
theorem add_lim {da db : List Int} (h : dval da < pw 15) (k : dval db < pw 15) : dval da + dval db < pw 32 := by have := pw15; omega
theorem mul_lim {da db : List Int} (oa : DsOk da) (ob : DsOk db) (h : dval da < pw 15) (k : dval db < pw 15) : dval da * dval db < pw 32 := by
  have a := dval_nonneg oa
  have b := dval_nonneg ob
  have t := Int.mul_le_mul (show dval da ≤ pw 15 by omega) (show dval db ≤ pw 15 by omega) b (by omega)
  rw [pw30] at t
  have : pw 30 < pw 32 := by decide
  omega

theorem badd_sm {na nb : Bool} {a b : Option Addr} {n m ca cb : Nat} {da db : List Int} {x y : Int} {w : World} (ha : Bg w na a n ca da x) (hb : Bg w nb b m cb db y) (sx : Sm x) (sy : Sm y) :
    Calls Try.prog 19 #[.agg #[.bool na, .slice a n ca], .agg #[.bool nb, .slice b m cb]] w fun e w' => NewB w w' e (x + y) ∧ Below w.heap.size w w' :=
  badd_any na nb a b n m ca cb da db x y w ha hb (add_lim (ha.sm sx) (hb.sm sy))
theorem bmul_sm {na nb : Bool} {a b : Option Addr} {n m ca cb : Nat} {da db : List Int} {x y : Int} {w : World} (ha : Bg w na a n ca da x) (hb : Bg w nb b m cb db y) (sx : Sm x) (sy : Sm y) :
    Calls Try.prog 21 #[.agg #[.bool na, .slice a n ca], .agg #[.bool nb, .slice b m cb]] w fun e w' => NewB w w' e (x * y) ∧ Below w.heap.size w w' :=
  bmul_any na nb a b n m ca cb da db x y w ha hb (mul_lim ha.dg.ok hb.dg.ok (ha.sm sx) (hb.sm sy))
theorem bcmp_sm {na nb : Bool} {a b : Option Addr} {n m ca cb : Nat} {da db : List Int} {x y : Int} {w : World} (ha : Bg w na a n ca da x) (hb : Bg w nb b m cb db y) (sx : Sm x) (sy : Sm y) :
    Calls Try.prog 28 #[.agg #[.bool na, .slice a n ca], .agg #[.bool nb, .slice b m cb]] w fun e w' => e = .returned (.int .i64 (cmpI x y)) ∧ Below w.heap.size w w' :=
  bcmp_any na nb a b n m ca cb da db x y w ha hb (add_lim (ha.sm sx) (hb.sm sy))

/-- The higher digits. -/
theorem dval_drop (ds : List Int) (k : Nat) : dval ds = low ds k + pw k * dval (ds.drop k) := by
  induction k generalizing ds with
  | zero => simp [low_zero, pw]
  | succ k ih =>
    cases ds with
    | nil => simp [low, dval]
    | cons d r =>
      have e := ih r
      simp only [dval, List.drop_succ_cons, pw]
      have l : low (d :: r) (k + 1) = d + K16 * low r k := by unfold low; simp [dval]
      rw [l, e, Int.mul_add, Int.mul_assoc]; omega
theorem drop_cons (ds : List Int) (k : Nat) (h : k < ds.length) : dval (ds.drop k) = ds.getD k 0 + 65536 * dval (ds.drop (k + 1)) := by
  rw [List.drop_eq_getElem_cons h]
  have e : ds.getD k 0 = ds[k] := by simp [List.getD, h]
  rw [e]; rfl
theorem DsOk.drop {ds : List Int} (h : DsOk ds) (k : Nat) : DsOk (ds.drop k) := fun d hd => h d (List.mem_of_mem_drop hd)
theorem drop_le {ds : List Int} (h : DsOk ds) (k : Nat) : dval (ds.drop k) ≤ dval ds := by
  have e := dval_drop ds k
  have a := low_nonneg h k
  have b := dval_nonneg (h.drop k)
  have p := pw_pos k
  have := Int.mul_le_mul_of_nonneg_right (show (1 : Int) ≤ pw k by omega) b
  omega
theorem or16 {u d : Int} (u0 : 0 ≤ u) (u1 : u < 281474976710656) (d0 : 0 ≤ d) (d1 : d < 65536) : bits .or .u64 (IntKind.u64.wrap (u * 65536)) d = d + 65536 * u := by
  obtain ⟨U, rfl⟩ := Int.eq_ofNat_of_zero_le u0
  obtain ⟨D, rfl⟩ := Int.eq_ofNat_of_zero_le d0
  rw [wrapId (by omega) (by omega)]
  have e : (U : Int) * 65536 = ((U * 65536 : Nat) : Int) := by omega
  rw [e, bits_or_u64_nat _ _ (by omega) (by omega)]
  have q : U * 65536 ||| D = U * 65536 + D := by
    rw [Nat.mul_comm U]
    exact (Nat.two_pow_add_eq_or_of_lt (i := 16) (by omega) U).symm
  rw [q]; omega

theorem sm63 : Sm (-9223372036854775808) := by unfold Sm; decide
theorem sm63' : Sm 9223372036854775807 := by unfold Sm; decide

/-- What a region over one number by digits reads. -/
abbrev Rd1 (W : World) (p : Nat) (na : Bool) (a : Option Addr) (n ca : Nat) (w' : World) : Prop :=
  w'.cell? ⟨p, 0, none⟩ = some (.bool na) ∧ w'.cell? ⟨p, 1, none⟩ = some (.slice a n ca) ∧ Below W.heap.size W w'
theorem Rd1.mk {W w' : World} {p : Nat} {na : Bool} {a : Option Addr} {n ca : Nat} (h : Rd1 W p na a n ca W) (hb : Below W.heap.size W w') : Rd1 W p na a n ca w' := by
  obtain ⟨a1, a2, _⟩ := h
  refine ⟨?_, ?_, hb⟩
  · rw [hb.cell (p := ⟨p, 0, none⟩) (World.block_lt_of_cell? _ _ a1)]; exact a1
  · rw [hb.cell (p := ⟨p, 1, none⟩) (World.block_lt_of_cell? _ _ a2)]; exact a2
theorem Rd1.call {W w1 w' : World} {p : Nat} {na : Bool} {a : Option Addr} {n ca : Nat} (h : Rd1 W p na a n ca W) (g : Rd1 W p na a n ca w1) (hb : Below w1.heap.size w1 w') : Rd1 W p na a n ca w' :=
  h.mk (g.2.2.trans (hb.mono g.2.2.size))

set_option maxHeartbeats 4000000 in
theorem bint_any (na : Bool) (a : Option Addr) (n ca : Nat) (da : List Int) (x : Int) (w : World) (ha : Bg w na a n ca da x) (sx : Sm x) :
    Calls Try.prog 18 #[.agg #[.bool na, .slice a n ca]] w fun e w' => e = .returned (.tuple #[.int .i64 (clip x), .bool (fit x)]) ∧ Below w.heap.size w w' := by
  have HA : Hid _ := ha
  have SX : Hid _ := sx
  have n32 := ha.small
  clear ha sx
  have S0 := Sits.new w na a n ca
  have BW : Hid (Below w.heap.size w (w.alloc (.cells #[.bool na, .slice a n ca] 35))) := (Below.refl _ _).alloc (Nat.le_refl _) _
  have R : Rd1 (w.alloc (.cells #[.bool na, .slice a n ca] 35)) w.heap.size na a n ca (w.alloc (.cells #[.bool na, .slice a n ca] 35)) := ⟨S0.c0, S0.c1, Below.refl _ _⟩
  have GA : Hid _ := HA.out.below BW.out
  clear S0
  by_cases c1 : x < -9223372036854775808
  · have f : fit x = false := fit_no (by unfold M63; omega)
    have F : Hid _ := And.intro f (clip_no f)
    clear f
    have k1 : cmpI x (-9223372036854775808) = -1 := cmpI_lt c1
    clear c1
    go_enter Try.func18, Try.ntmps18
    go_wp2_with fail
    go_region_with (first | (go_at_call 17; refine (bof_any _ _ (by decide) (by decide)).mono ?_; rintro e w1 ⟨⟨sg1, a1, m1, c1, d1, rfl, g1, f1⟩, hb1⟩; obtain ⟨hc1, hf1⟩ := bcell hb1) | (go_at_call 28; refine (bcmp_sm (GA.out.below ((Below.refl _ _).drew.trans hb1)) g1 SX.out sm63).mono ?_; rw [k1]; rintro e w2 ⟨rfl, hb2⟩))
    all_goals
      go_wp2
      go_ret2
      have b1 := BW.out.drew.trans (hb1.mono BW.out.size)
      exact ⟨ret2 F.out.2.symm F.out.1.symm, b1.trans (hb2.mono b1.size)⟩
  · have k1 : decide (cmpI x (-9223372036854775808) < 0) = false := by
      rcases Int.lt_or_eq_of_le (show -9223372036854775808 ≤ x by omega) with h | h
      · rw [cmpI_gt h]; decide
      · rw [cmpI_eq h.symm]; decide
    by_cases c2 : 9223372036854775807 < x
    · have f : fit x = false := fit_no (by unfold M63; omega)
      have F : Hid _ := And.intro f (clip_no f)
      clear f
      have k2 : 0 < cmpI x 9223372036854775807 := by rw [cmpI_gt c2]; decide
      clear c1 c2
      go_enter Try.func18, Try.ntmps18
      go_wp2_with fail
      go_region_held3 (Rd1 (w.alloc (.cells #[.bool na, .slice a n ca] 35)) w.heap.size na a n ca) (first | exact R.mk (Below.refl _ _).drew | exact Rd1.call R (by assumption) (by assumption)) (first | (go_at_call 17; refine (bof_any _ _ (by decide) (by decide)).mono ?_; rintro e w1 ⟨⟨sg1, a1, m1, c1, d1, rfl, g1, f1⟩, hb1⟩) | (go_at_call 28; refine (bcmp_sm (GA.out.below (show Rd1 (w.alloc (.cells #[.bool na, .slice a n ca] 35)) w.heap.size na a n ca _ by assumption).2.2) g1 SX.out (by first | exact sm63 | exact sm63')).mono ?_; rintro e w2 ⟨rfl, hb2⟩))
      go_wp2
      go_ret2
      have b1 := (show Rd1 (w.alloc (.cells #[.bool na, .slice a n ca] 35)) w.heap.size na a n ca _ by assumption).2.2
      exact ⟨ret2 F.out.2.symm F.out.1.symm, BW.out.trans (b1.mono BW.out.size)⟩
    · have k2 : cmpI x 9223372036854775807 ≤ 0 := by
        rcases Int.lt_or_eq_of_le (show x ≤ 9223372036854775807 by omega) with h | h
        · rw [cmpI_lt h]; decide
        · rw [cmpI_eq h]; decide
      have f : fit x = true := fit_yes (by unfold M63; omega) (by unfold M63; omega)
      have F : Hid _ := And.intro f (clip_yes f)
      have BD : Hid (-9223372036854775808 ≤ x ∧ x ≤ 9223372036854775807) := ⟨by omega, by omega⟩
      clear f c1 c2
      go_enter Try.func18, Try.ntmps18
      go_wp2_with fail
      go_region_held3 (Rd1 (w.alloc (.cells #[.bool na, .slice a n ca] 35)) w.heap.size na a n ca) (first | exact R.mk (Below.refl _ _).drew | exact Rd1.call R (by assumption) (by assumption)) (first | (go_at_call 17; refine (bof_any _ _ (by decide) (by decide)).mono ?_; rintro e w1 ⟨⟨sg1, a1, m1, c1, d1, rfl, g1, f1⟩, hb1⟩) | (go_at_call 28; refine (bcmp_sm (GA.out.below (show Rd1 (w.alloc (.cells #[.bool na, .slice a n ca] 35)) w.heap.size na a n ca _ by assumption).2.2) g1 SX.out (by first | exact sm63 | exact sm63')).mono ?_; rintro e w2 ⟨rfl, hb2⟩))
      have RZ := (show Rd1 (w.alloc (.cells #[.bool na, .slice a n ca] 35)) w.heap.size na a n ca _ by assumption)
      have t0 := RZ.1
      have t1 := RZ.2.1
      have BZ : Hid _ := BW.out.trans (RZ.2.2.mono BW.out.size)
      go_wp2_with fail
      clear k1 k2 RZ
      obtain ⟨ba, oa, h1, h2⟩ := (HA.out.below BZ.out).dg.cell
      have H1 : Hid _ := h1
      have H2 : Hid _ := h2
      have DL : Hid (dval da ≤ 9223372036854775808) := by
        have v := HA.out.val
        have b := BD.out
        show _ ≤ _
        cases na
        · rw [sgn_false] at v; omega
        · rw [sgn_true] at v; omega
      clear h1 h2
      go_loop [4, 5] (fun uv iv => ∃ k : Nat, k ≤ n ∧ iv = .int .i64 ((k : Int) - 1) ∧ uv = .int .u64 (dval (da.drop k))) (fun _ i => (intOf i + 1).toNat)
      case atStart => exact ⟨n, Nat.le_refl _, rfl, by rw [List.drop_of_length_le (by rw [HA.out.dg.len]; exact Nat.le_refl _)]; rfl⟩
      case round =>
        obtain ⟨k, hk, rfl, rfl⟩ := hrel
        cases k with
        | succ k =>
          rw [show ((k + 1 : Nat) : Int) - 1 = (k : Int) by omega]
          have kn : (k : Int) < (n : Int) := by omega
          obtain rfl := H1.out (by omega)
          have e1 := H2.out k (by omega)
          have y := HA.out.dg.ok.getD k
          have dc := drop_cons da k (by rw [HA.out.dg.len]; omega)
          have d0 := dval_nonneg (HA.out.dg.ok.drop (k + 1))
          have d1 : dval (da.drop (k + 1)) < 281474976710656 := by
            have := drop_le HA.out.dg.ok k
            have := DL.out
            have := y.1
            omega
          have DC : Hid _ := dc
          clear dc
          generalize dval (da.drop (k + 1)) = u at *
          generalize da.getD k 0 = x1 at *
          unfold K16 at y
          have o16 := or16 d0 d1 y.1 y.2
          rw [wrapId (by omega) (by omega)] at o16
          obtain ⟨y0, y1⟩ := y
          go_wp2
          go_round
          case rel => exact ⟨k, by omega, by go_num, by rw [DC.out]⟩
          case measure => simp [intOf]
        | zero =>
          have u0 : da.drop 0 = da := rfl
          rw [u0]
          have d0 := dval_nonneg HA.out.dg.ok
          have v := HA.out.val
          have dl := DL.out
          have bd := BD.out
          generalize dval da = u at *
          cases na with
          | false =>
            rw [sgn_false] at v
            subst v
            have wx : wrap64 x = x := wrap64_id (by unfold M63; omega) (by unfold M63; omega)
            clear bd dl
            go_wp2
            go_ret2
            exact ⟨ret2 F.out.2.symm F.out.1.symm, BZ.out⟩
          | true =>
            rw [sgn_true] at v
            have wx : wrap64 (IntKind.u64.wrap (-u)) = x := by rw [wrapU']; unfold wrap64; omega
            clear bd dl v
            go_wp2
            go_ret2
            exact ⟨ret2 F.out.2.symm F.out.1.symm, BZ.out⟩

end Go.Proofs.Ytlgdolchnlagcaa
