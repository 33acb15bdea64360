/- The law NumWide walked: numbers of two limbs are added, multiplied, turned, compared, divided exactly, or refused. -/
import Derived.Test.YtlgdolchnlagcaaB14
namespace Go.Proofs.Ytlgdolchnlagcaa
open Go.RowKit Go.Deep
set_option linter.unusedVariables false

theorem val_bd {h l : Int} (h1 : -M63 ≤ h) (h2 : h < M63) (l1 : 0 ≤ l) (l2 : l < M64) : -M127 ≤ val h l ∧ val h l < M127 := by
  unfold val M127 M63 M64 at *; omega
theorem sm2_of {x : Int} (h : -(M127 * 4) < x) (k : x < M127 * 4) : Sm2 x := by
  have : M127 * 4 < pw 14 := by decide
  unfold Sm2; omega
theorem smm {x : Int} (h : Sm2 x) : Sm x := sm_lt h.1 h.2
theorem cb {W v v' : World} (h : Below W.heap.size W v) (k : Below v.heap.size v v') : Below W.heap.size W v' := h.trans (k.mono h.size)

def wflv (v a : Int) : Int := if 0 < a then clip (v / a) else 0
def wflb (v a : Int) : Bool := if 0 < a then fit (v / a) else false
theorem wfloor_all (h l a : Int) (w : World) (h1 : -M63 ≤ h) (h2 : h < M63) (l1 : 0 ≤ l) (l2 : l < M64) (ha' : a < M63) :
    Calls Try.prog 15 #[.agg #[.int .i64 h, .int .u64 l], .int .i64 a] w fun e w' => e = .returned (.tuple #[.int .i64 (wflv (val h l) a), .bool (wflb (val h l) a)]) ∧ Below w.heap.size w w' := by
  by_cases z : 0 < a
  · have e1 : wflv (val h l) a = clip (val h l / a) := by rw [wflv, if_pos z]
    have e2 : wflb (val h l) a = fit (val h l / a) := by rw [wflb, if_pos z]
    rw [e1, e2]
    exact wfloor_any h l a w h1 h2 l1 l2 (by omega) ha'
  · have e1 : wflv (val h l) a = 0 := by rw [wflv, if_neg z]
    have e2 : wflb (val h l) a = false := by rw [wflb, if_neg z]
    rw [e1, e2]
    exact wfloor_low h l a w (by omega)
theorem smF {v a : Int} (b : -M127 ≤ v ∧ v < M127) (z : 0 < a) : Sm (v.fdiv a) := by
  rw [Int.fdiv_eq_ediv_of_nonneg _ (by omega)]
  have : M127 < pw 15 := by decide
  have p : (0 : Int) ≤ M127 := by decide
  have h1 : v / a ≤ M127 := by
    rcases Int.lt_or_le v 0 with n | n
    · have := Int.ediv_neg_of_neg_of_pos n z
      omega
    · have := Int.ediv_le_self a n; omega
  have h2 : -M127 ≤ v / a := by
    have q : -M127 / a ≤ v / a := Int.ediv_le_ediv z b.1
    have r : -M127 ≤ -M127 / a := by
      rw [Int.le_ediv_iff_mul_le z]
      have := Int.mul_le_mul_of_nonneg_left (show (1 : Int) ≤ a by omega) p
      rw [Int.neg_mul]
      omega
    omega
  unfold Sm; omega
theorem nzl {w : World} {neg : Bool} {a : Option Addr} {m cap : Nat} {ds : List Int} {n : Int} (h : Bg w neg a m cap ds n) (z : n ≠ 0) : 0 < m := by
  rcases Nat.eq_zero_or_pos m with e | e
  · have v := h.val
    have : ds = [] := List.length_eq_zero_iff.1 (by rw [h.dg.len]; exact e)
    rw [this] at v
    exfalso; apply z; rw [v]; cases neg <;> rfl
  · exact e

set_option maxHeartbeats 8000000 in
set_option maxRecDepth 100000 in
theorem numwide_walk (h l g k a b : Int) (h1 : -M63 ≤ h) (h2 : h < M63) (l1 : 0 ≤ l) (l2 : l < M64) (g1 : -M63 ≤ g) (g2 : g < M63) (k1 : 0 ≤ k) (k2 : k < M64) (ha : -M63 ≤ a) (ha' : a < M63) (hb : -M63 ≤ b) (hb' : b < M63) (w : World) :
    Calls Try.prog 5 #[.agg #[.int .i64 h, .int .u64 l], .agg #[.int .i64 g, .int .u64 k], .int .i64 a, .int .i64 b] w fun e w' => e = .returned (.bool true) ∧ Below w.heap.size w w' := by
  go_enter Try.func5, Try.ntmps5
  go_wp2_with fail
  refine (awake_any _).mono ?_
  rintro e w1 ⟨rfl, hb1⟩
  have L4 := ((Lies.new w h l).alloc (.cells #[.int .i64 g, .int .u64 k] 28)).below hb1
  have L5 := Lies.new (w.alloc (.cells #[.int .i64 h, .int .u64 l] 28)) g k
  rw [World.size_alloc] at L5
  replace L5 := L5.below hb1
  have B1 := cb (ab (ab (Below.refl w.heap.size w) (.cells #[.int .i64 h, .int .u64 l] 28)) (.cells #[.int .i64 g, .int .u64 k] 28)) hb1
  have q0 := L4.hi
  have q1 := L4.lo
  have q2 := L5.hi
  have q3 := L5.lo
  clear hb1
  go_wp2_with fail
  refine (plus_any h l g k _ h1 h2 g1 g2 l1 l2 k1 k2).mono ?_
  rintro e w2 ⟨rfl, hb2⟩
  replace B1 := ab (cb B1 hb2) (.cells #[.int .i64 (whi (val h l + val g k)), .int .u64 (wlo (val h l + val g k))] 28)
  replace L4 := (L4.below hb2).alloc (.cells #[.int .i64 (whi (val h l + val g k)), .int .u64 (wlo (val h l + val g k))] 28)
  replace L5 := (L5.below hb2).alloc (.cells #[.int .i64 (whi (val h l + val g k)), .int .u64 (wlo (val h l + val g k))] 28)
  have L9 := Lies.new w2 (whi (val h l + val g k)) (wlo (val h l + val g k))
  clear q0 q1 q2 q3 hb2
  have q0 := L4.hi
  have q1 := L4.lo
  go_wp2_with fail
  refine (plusmul_any h l a b _ h1 h2 l1 l2 ha ha' hb hb').mono ?_
  rintro e w3 ⟨rfl, hb3⟩
  replace B1 := ab (cb B1 hb3) (.cells #[.int .i64 (whi (val h l + a * b)), .int .u64 (wlo (val h l + a * b))] 28)
  replace L4 := (L4.below hb3).alloc (.cells #[.int .i64 (whi (val h l + a * b)), .int .u64 (wlo (val h l + a * b))] 28)
  replace L5 := (L5.below hb3).alloc (.cells #[.int .i64 (whi (val h l + a * b)), .int .u64 (wlo (val h l + a * b))] 28)
  replace L9 := (L9.below hb3).alloc (.cells #[.int .i64 (whi (val h l + a * b)), .int .u64 (wlo (val h l + a * b))] 28)
  have L11 := Lies.new w3 (whi (val h l + a * b)) (wlo (val h l + a * b))
  clear q0 q1 hb3
  have q0 := L4.hi
  have q1 := L4.lo
  go_wp2_with fail
  refine (minus_any h l _ h1 h2 l1 l2).mono ?_
  rintro e w4 ⟨rfl, hb4⟩
  have N : Hid (NW w w.heap.size (w.heap.size + 1) w2.heap.size w3.heap.size w4.heap.size h l g k (val h l + val g k) (val h l + a * b) (-val h l) (w4.alloc (.cells #[.int .i64 (whi (-val h l)), .int .u64 (wlo (-val h l))] 28))) :=
    ⟨(L4.below hb4).alloc _, (L5.below hb4).alloc _, (L9.below hb4).alloc _, (L11.below hb4).alloc _, Lies.new _ _ _, ab (cb B1 hb4) _⟩
  clear q0 q1 hb4 B1 L4 L5 L9 L11
  go_upto_region 6 with fail
  generalize w2.heap.size = c9 at *
  generalize w3.heap.size = c11 at *
  generalize w4.heap.size = c13 at *
  generalize w4.alloc (.cells #[.int .i64 (whi (-val h l)), .int .u64 (wlo (-val h l))] 28) = W at *
  have q0 := N.out.x.hi
  have q1 := N.out.x.lo
  have q2 := N.out.y.hi
  have q3 := N.out.y.lo
  have R : RdW W w.heap.size (w.heap.size + 1) h l g k W := ⟨q0, q1, q2, q3, Below.refl _ _⟩
  go_cut [15, 16] (fun pp qq wx => ∃ c d s t ax ay nx ny cx cy dx dy, pp = .pointer (some ⟨c, 0, none⟩) ∧ qq = .pointer (some ⟨d, 0, none⟩) ∧ Hid (NX w w.heap.size (w.heap.size + 1) c9 c11 c13 h l g k (val h l + val g k) (val h l + a * b) (-val h l) c d s t ax ay nx ny cx cy dx dy wx))
  case first =>
    go_region_held3 (RdW W w.heap.size (w.heap.size + 1) h l g k)
      (with_reducible first | exact R.mk (Below.refl _ _).drew | exact R.mk (ab (Below.refl _ _) _).drew | exact R.mk (ab (ab (Below.refl _ _) _) _).drew | exact RdW.alloc R (by assumption) _ | exact R.mk (ab E2 _) | exact R.mk (ab (ab E2 _) _) | exact R.mk (sb E2 (by omega)) | exact R.mk (sb (sb E2 (by omega)) (by omega)) | exact R.mk (sb (ab E2 _) (by omega)) | exact R.mk (sb (sb (ab E2 _) (by omega)) (by omega)) | exact RdW.call R (by assumption) (by assumption))
      (first
        | (go_at_call 25
           refine (own_any h l _ h1 h2 l1 l2).mono ?_
           rintro e v1 ⟨⟨s1, a1, n1, m1, d1, rfl, u1, f1⟩, hb1⟩
           have E1 := RdW.out' (show RdW W w.heap.size (w.heap.size + 1) h l g k _ by assumption) hb1
           have z1 := hb1.size
           (try simp only [World.size_drew, World.size_alloc] at z1)
           have o1 := u1.dg.old
           (try (have A1' := ((Plc.new _).al _).below ((Below.refl _ _).drew.trans hb1)))
           (first | (have A1 := (Plc.new1 _ _).below ((Below.refl _ _).drew.trans hb1)) | (have A1 := (Plc.new _).below ((Below.refl _ _).drew.trans hb1)) | skip))
        | (go_at_call 25
           refine (own_any g k _ g1 g2 k1 k2).mono ?_
           rintro e v2 ⟨⟨s2, a2, n2, m2, d2, rfl, u2, f2⟩, hb2⟩
           have E2 := RdW.out' (show RdW W w.heap.size (w.heap.size + 1) h l g k _ by assumption) hb2
           have z2 := hb2.size
           (try simp only [World.size_alloc] at z2)
           have o2 := u2.dg.old
           have H2 : Below v1.heap.size v1 v2 := (by first | exact hb2 | exact st1 hb2 | exact st2 hb2)
           have U1 := u1.below H2
           (try (have A2 := A1.below H2; have r0 := A2.c0; have r1 := A2.c1; have r2 := A2.fz; have ra := A2.al (.cells #[.bool false, .slice none 0 0] 35); have ra0 := ra.c0; have ra1 := ra.c1; have ra2 := ra.fz; have rb := A2.al (.cells #[.bool s1, .slice a1 n1 m1] 35); have rb0 := rb.c0; have rb1 := rb.c1; have rb2 := rb.fz))
           (try (have A2' := A1'.below H2; have rr0 := A2'.c0; have rr1 := A2'.c1; have rr2 := A2'.fz; have rra := A2'.al (.cells #[.bool false, .slice none 0 0] 35); have rra0 := rra.c0; have rra1 := rra.c1; have rra2 := rra.fz; have rrb := A2'.al (.cells #[.bool s1, .slice a1 n1 m1] 35); have rrb0 := rrb.c0; have rrb1 := rrb.c1; have rrb2 := rrb.fz))
           (try (have B2' := ((Plc.new _).al _).below hb2; have xx0 := B2'.c0; have xx1 := B2'.c1; have xx2 := B2'.fz; have xxa := B2'.al (.cells #[.bool false, .slice none 0 0] 35); have xxa0 := xxa.c0; have xxa1 := xxa.c1; have xxa2 := xxa.fz; have xxb := B2'.al (.cells #[.bool s1, .slice a1 n1 m1] 35); have xxb0 := xxb.c0; have xxb1 := xxb.c1; have xxb2 := xxb.fz))
           (first | (have B2 := (Plc.new1 _ _).below hb2; have x0 := B2.c0; have x1 := B2.c1; have x2 := B2.fz; have xa := B2.al (.cells #[.bool false, .slice none 0 0] 35); have xa0 := xa.c0; have xa1 := xa.c1; have xa2 := xa.fz; have xb := B2.al (.cells #[.bool s1, .slice a1 n1 m1] 35); have xb0 := xb.c0; have xb1 := xb.c1; have xb2 := xb.fz) | (have B2 := (Plc.new _).below hb2; have x0 := B2.c0; have x1 := B2.c1; have x2 := B2.fz; have xa := B2.al (.cells #[.bool false, .slice none 0 0] 35); have xa0 := xa.c0; have xa1 := xa.c1; have xa2 := xa.fz; have xb := B2.al (.cells #[.bool s1, .slice a1 n1 m1] 35); have xb0 := xb.c0; have xb1 := xb.c1; have xb2 := xb.fz) | skip)
           (try (have y1 : W.heap.size ≠ v1.heap.size := by omega))
           (try (have y1' : v1.heap.size ≠ W.heap.size := by omega))
           (try (have y2 : W.heap.size ≠ v2.heap.size := by omega))
           (try (have y2' : v2.heap.size ≠ W.heap.size := by omega))
           (try (have y3 : v1.heap.size ≠ v2.heap.size := by omega))
           (try (have y3' : v2.heap.size ≠ v1.heap.size := by omega))))
    all_goals go_wp2
    all_goals go_meet
    all_goals refine ⟨_, _, s1, s2, a1, a2, n1, n2, m1, m2, d1, d2, rfl, rfl, ?_⟩
    all_goals change NX _ _ _ _ _ _ _ _ _ _ _ _ _ _ _ _ _ _ _ _ _ _ _ _ _ _
    all_goals with_reducible first | refine nx_new N.out E2 U1 u2 | refine nx_wen N.out E2 U1 u2 | refine nx_one N.out E2 U1 u2 ?_ ?_ ?_ ?_ | refine nx_two N.out E2 U1 u2 ?_ ?_ ?_ ?_ ?_ ?_ ?_ ?_ ?_ | refine nx_two N.out (ab E2 _) (U1.al _) (u2.al _) ?_ ?_ ?_ ?_ ?_ ?_ ?_ ?_ ?_
    all_goals first
      | with_reducible exact A2
      | with_reducible exact A2'
      | with_reducible exact B2
      | with_reducible exact B2'
      | with_reducible exact A2.al _
      | with_reducible exact B2.al _
      | with_reducible exact Plc.new _
      | omega
      | (intro pz z hz; have i1 := f1 pz z hz; have i2 := o1 pz z hz; (try simp only [World.size_drew, World.size_alloc] at i1); omega)
      | (intro pz z hz; have i1 := f2 pz z hz; have i2 := o2 pz z hz; (try simp only [World.size_alloc] at i1); omega)
  case rest =>
    obtain ⟨c, d, s, t, ax, ay, nx, ny, cx, cy, dx, dy, rfl, rfl, X⟩ := hcut
    clear q0 q1 q2 q3 R N
    have V1 := val_bd h1 h2 l1 l2
    have V2 := val_bd g1 g2 k1 k2
    have D := mul_bd ha ha' hb hb'
    have big : M63 * M63 < M127 := by decide
    have lit : M63 < M127 := by decide
    have SX : Hid (Sm2 (val h l)) := sm2_of (by omega) (by omega)
    have SY : Hid (Sm2 (val g k)) := sm2_of (by omega) (by omega)
    have SP : Hid (Sm2 (val h l + val g k)) := sm2_of (by omega) (by omega)
    have SQ : Hid (Sm2 (val h l + a * b)) := sm2_of (by omega) (by omega)
    have SN : Hid (Sm2 (-val h l)) := sm2_of (by omega) (by omega)
    have SA : Hid (Sm2 a) := sm2_of (by omega) (by omega)
    have SB : Hid (Sm2 b) := sm2_of (by omega) (by omega)
    have SM : Hid (Sm2 (a * b)) := sm2_of (by omega) (by omega)
    clear V1 V2 D big lit
    have R := X.out.rd (Below.refl _ _)
    have tok1 : True := trivial
    go_upto_region 7 with fail
    go_cut [80] (fun v80 wx => v80 = .bool false ∧ Hid (NX w w.heap.size (w.heap.size + 1) c9 c11 c13 h l g k (val h l + val g k) (val h l + a * b) (-val h l) c d s t ax ay nx ny cx cy dx dy wx))
    case first =>
      go_region_held3 (RdT wc w.heap.size (w.heap.size + 1) c9 c11 c13 h l g k (whi (val h l + val g k)) (wlo (val h l + val g k)) (whi (val h l + a * b)) (wlo (val h l + a * b)) (whi (-val h l)) (wlo (-val h l)) c d s t ax ay nx ny cx cy)
        (first | exact X.out.rd (Below.refl _ _).drew | exact X.out.rd (RdT.out' (by assumption) (by assumption)))
        (first
          | (go_at_call 19
             have tk := tok1
             clear tok1
             refine (badd_sm (x := val h l) (y := val g k) (X.out.gx.below (RdT.bl (by assumption))) (X.out.gy.below (RdT.bl (by assumption))) (smm SX.out) (smm SY.out)).mono ?_
             rintro e v1 ⟨⟨s1, a1, n1, m1, d1, rfl, u1, f1⟩, hb1⟩)
          | (go_at_call 26
             refine (wide_same u1 SP.out).mono ?_
             clear u1
             rintro e v2 ⟨rfl, hb2⟩
             have tok2 : True := trivial)
          | (go_at_call 17
             have tk2 := tok2
             clear tok2
             refine (bof_any a _ ha ha').mono ?_
             rintro e v3 ⟨⟨s3, a3, n3, m3, d3, rfl, u3, f3⟩, hb3⟩)
          | (go_at_call 17
             refine (bof_any b _ hb hb').mono ?_
             rintro e v4 ⟨⟨s4, a4, n4, m4, d4, rfl, u4, f4⟩, hb4⟩)
          | (go_at_call 21
             refine (bmul_sm (u3.below hb4) u4 (smm SA.out) (smm SB.out)).mono ?_
             rintro e v5 ⟨⟨s5, a5, n5, m5, d5, rfl, u5, f5⟩, hb5⟩)
          | (go_at_call 19
             refine (badd_sm (x := val h l) (y := a * b) (X.out.gx.below (RdT.bl (by assumption))) u5 (smm SX.out) (smm SM.out)).mono ?_
             rintro e v6 ⟨⟨s6, a6, n6, m6, d6, rfl, u6, f6⟩, hb6⟩)
          | (go_at_call 26
             refine (wide_same u6 SQ.out).mono ?_
             clear u6
             rintro e v7 ⟨rfl, hb7⟩)
          | (go_at_call 20
             refine (bminus_any _ _ _ _ _ _ _ (X.out.gx.below (RdT.bl (by assumption)))).mono ?_
             rintro e v8 ⟨⟨s8, rfl, u8⟩, hb8⟩)
          | (go_at_call 26
             refine (wide_same u8 SN.out).mono ?_
             clear u8
             rintro e v9 ⟨rfl, hb9⟩)
          | (go_at_call 27
             refine (cmp_any h l g k _ l1 l2 k1 k2).mono ?_
             rintro e v10 ⟨rfl, hb10⟩)
          | (go_at_call 28
             refine (bcmp_sm (X.out.gx.below (RdT.bl (by assumption))) (X.out.gy.below (RdT.bl (by assumption))) (smm SX.out) (smm SY.out)).mono ?_
             rintro e v11 ⟨rfl, hb11⟩))
      go_wp2
      go_meet
      case rel => exact ⟨rfl, X.out.below (RdT.bl (by assumption))⟩
    case rest =>
      obtain ⟨rfl, Y⟩ := hcut
      clear R X tok1
      have q0 := Y.out.nw.x.hi
      have q1 := Y.out.nw.x.lo
      go_wp2_with fail
      refine (wfloor_all h l a _ h1 h2 l1 l2 ha').mono ?_
      rintro e w5 ⟨rfl, hb5⟩
      have Z : Hid _ := Y.out.below hb5
      clear q0 q1 hb5 Y
      go_upto_if 88 with fail
      go_cut [18, 12] (fun v18 v12 wx => v18 = .int .i64 (wflv (val h l) a) ∧ v12 = .bool (wflb (val h l) a) ∧ Hid (NX w w.heap.size (w.heap.size + 1) c9 c11 c13 h l g k (val h l + val g k) (val h l + a * b) (-val h l) c d s t ax ay nx ny cx cy dx dy wx))
      case first =>
        by_cases z : 0 < a
        · have e1 : wflv (val h l) a = clip ((val h l).fdiv a) := by rw [wflv, if_pos z, Int.fdiv_eq_ediv_of_nonneg _ (by omega)]
          have e2 : wflb (val h l) a = fit ((val h l).fdiv a) := by rw [wflb, if_pos z, Int.fdiv_eq_ediv_of_nonneg _ (by omega)]
          have E : Hid _ := And.intro e1 e2
          have AZ : Hid (a ≠ 0) := by show a ≠ 0; omega
          have SF : Hid (Sm ((val h l).fdiv a)) := smF (val_bd h1 h2 l1 l2) z
          have R := Z.out.rd (Below.refl _ _)
          clear e1 e2
          go_wp2_with fail
          go_region_held3 (RdT w5 w.heap.size (w.heap.size + 1) c9 c11 c13 h l g k (whi (val h l + val g k)) (wlo (val h l + val g k)) (whi (val h l + a * b)) (wlo (val h l + a * b)) (whi (-val h l)) (wlo (-val h l)) c d s t ax ay nx ny cx cy)
            (first | exact Z.out.rd (Below.refl _ _).drew | exact Z.out.rd (RdT.out' (by assumption) (by assumption)))
            (first
              | (go_at_call 17
                 refine (bof_any a _ ha ha').mono ?_
                 rintro e v3 ⟨⟨s3, a3, n3, m3, d3, rfl, u3, f3⟩, hb3⟩)
              | (go_at_call 22
                 refine (bfloor_walk _ _ _ _ _ _ _ _ _ _ _ _ _ (Z.out.gx.below (RdT.bl (by assumption))) u3 (smm SX.out) SA.out (nzl u3 AZ.out)).mono ?_
                 rintro e v4 ⟨⟨s4, a4, n4, m4, d4, rfl, u4, f4⟩, hb4⟩)
              | (go_at_call 18
                 refine (bint_any _ _ _ _ _ _ _ u4 SF.out).mono ?_
                 rintro e v5 ⟨rfl, hb5⟩))
          go_wp2
          go_meet
          case rel => exact ⟨by rw [E.out.1], by rw [E.out.2], Z.out.below (RdT.bl (by assumption))⟩
        · have e1 : wflv (val h l) a = 0 := by rw [wflv, if_neg z]
          have e2 : wflb (val h l) a = false := by rw [wflb, if_neg z]
          have E : Hid _ := And.intro e1 e2
          clear e1 e2
          go_wp2
          go_meet
          case rel => exact ⟨by rw [E.out.1], by rw [E.out.2], Z.out⟩
      case rest =>
        obtain ⟨rfl, rfl, Y⟩ := hcut
        clear Z
        have BY : Hid _ := Y.out.nw.bl
        clear Y
        go_wp2_with fail
        refine (of_any b _ hb hb').mono ?_
        rintro e w6 ⟨rfl, hb6⟩
        have L := Lies.new w6 (b / M64) (b % M64)
        have B6 : Hid _ := ab (cb BY.out hb6) (.cells #[.int .i64 (b / M64), .int .u64 (b % M64)] 28)
        have q0 := L.hi
        have q1 := L.lo
        have BH : Hid _ := hi_bd (n := b) (by have : M63 < M127 := by decide
                                              omega) (by have : M63 < M127 := by decide
                                                         omega)
        have VO : Hid _ := val_of b
        have CE : Hid (cmpI b b = 0) := cmpI_eq rfl
        clear hb6 BY L
        go_wp2_with fail
        refine (own_any (b / M64) (b % M64) _ BH.out.1 BH.out.2 (lo_ge b) (lo_lt b)).mono ?_
        rw [VO.out]
        rintro e w7 ⟨⟨s3, a3, n3, m3, d3, rfl, u3, f3⟩, hb7⟩
        go_wp2_with fail
        refine (bof_any b _ hb hb').mono ?_
        rintro e w8 ⟨⟨s4, a4, n4, m4, d4, rfl, u4, f4⟩, hb8⟩
        have u3' := u3.below hb8
        go_wp2_with fail
        refine (bcmp_sm u3' u4 (smm SB.out) (smm SB.out)).mono ?_
        rw [CE.out]
        rintro e w9 ⟨rfl, hb9⟩
        have BF : Hid _ := cb (cb (cb B6.out hb7) hb8) hb9
        clear u3 u4 u3' f3 f4 hb7 hb8 hb9 q0 q1
        go_wp2
        go_ret
        exact ⟨rfl, BF.out⟩

end Go.Proofs.Ytlgdolchnlagcaa
