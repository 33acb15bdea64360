/- The walks over package publicanref1, on: a number by digits as two limbs. -/
import Derived.Test.YtlgdolchnlagcaaB11
namespace Go.Proofs.Ytlgdolchnlagcaa
open Go.RowKit Go.Deep
set_option linter.unusedVariables false

/-- Two numbers by digits, in their places. -/
structure XY2 (w : World) (p q : Nat) (sx sy : Bool) (ax ay : Option Addr) (nx ny cx cy : Nat) (dx dy : List Int) (a b : Int) (W : World) : Prop where
  x : Sits W p sx ax nx cx
  y : Sits W q sy ay ny cy
  gx : Bg W sx ax nx cx dx a
  gy : Bg W sy ay ny cy dy b
  bl : Below w.heap.size w W
theorem XY2.below {w W W' : World} {p q : Nat} {sx sy : Bool} {ax ay : Option Addr} {nx ny cx cy : Nat} {dx dy : List Int} {a b : Int} (h : XY2 w p q sx sy ax ay nx ny cx cy dx dy a b W) (hb : Below W.heap.size W W') : XY2 w p q sx sy ax ay nx ny cx cy dx dy a b W' :=
  ⟨h.x.below hb, h.y.below hb, h.gx.below hb, h.gy.below hb, h.bl.trans (hb.mono h.bl.size)⟩

theorem smM : Sm M127 := by unfold Sm; decide
theorem smM' : Sm (-M127) := by unfold Sm; decide
theorem sm126 : Sm (val 4611686018427387904 0) := by unfold Sm; decide
theorem two127 : val 4611686018427387904 0 + val 4611686018427387904 0 = M127 := by decide

/-- What a region over three numbers by digits reads. -/
abbrev Rd3 (W : World) (p q r : Nat) (na nb nc : Bool) (a b c : Option Addr) (n m l ca cb cc : Nat) (w' : World) : Prop :=
  w'.cell? ⟨p, 0, none⟩ = some (.bool na) ∧ w'.cell? ⟨p, 1, none⟩ = some (.slice a n ca) ∧ w'.cell? ⟨q, 0, none⟩ = some (.bool nb) ∧ w'.cell? ⟨q, 1, none⟩ = some (.slice b m cb) ∧ w'.cell? ⟨r, 0, none⟩ = some (.bool nc) ∧ w'.cell? ⟨r, 1, none⟩ = some (.slice c l cc) ∧ Below W.heap.size W w'
section
variable {W w1 w' : World} {p q r : Nat} {na nb nc : Bool} {a b c : Option Addr} {n m l ca cb cc : Nat}
theorem Rd3.mk (h : Rd3 W p q r na nb nc a b c n m l ca cb cc W) (hb : Below W.heap.size W w') : Rd3 W p q r na nb nc a b c n m l ca cb cc w' := by
  obtain ⟨a1, a2, a3, a4, a5, a6, _⟩ := h
  refine ⟨?_, ?_, ?_, ?_, ?_, ?_, hb⟩
  · rw [hb.cell (p := ⟨p, 0, none⟩) (World.block_lt_of_cell? _ _ a1)]; exact a1
  · rw [hb.cell (p := ⟨p, 1, none⟩) (World.block_lt_of_cell? _ _ a2)]; exact a2
  · rw [hb.cell (p := ⟨q, 0, none⟩) (World.block_lt_of_cell? _ _ a3)]; exact a3
  · rw [hb.cell (p := ⟨q, 1, none⟩) (World.block_lt_of_cell? _ _ a4)]; exact a4
  · rw [hb.cell (p := ⟨r, 0, none⟩) (World.block_lt_of_cell? _ _ a5)]; exact a5
  · rw [hb.cell (p := ⟨r, 1, none⟩) (World.block_lt_of_cell? _ _ a6)]; exact a6
theorem Rd3.bl (g : Rd3 W p q r na nb nc a b c n m l ca cb cc w1) : Below W.heap.size W w1 := g.2.2.2.2.2.2
theorem Rd3.out' (g : Rd3 W p q r na nb nc a b c n m l ca cb cc w1) (hb : Below w1.heap.size w1 w') : Below W.heap.size W w' := g.bl.trans (hb.mono g.bl.size)
theorem Rd3.call (h : Rd3 W p q r na nb nc a b c n m l ca cb cc W) (g : Rd3 W p q r na nb nc a b c n m l ca cb cc w1) (hb : Below w1.heap.size w1 w') : Rd3 W p q r na nb nc a b c n m l ca cb cc w' := h.mk (g.out' hb)
theorem Rd3.alloc (h : Rd3 W p q r na nb nc a b c n m l ca cb cc W) (g : Rd3 W p q r na nb nc a b c n m l ca cb cc w1) (o : Obj) : Rd3 W p q r na nb nc a b c n m l ca cb cc (w1.alloc o) := h.mk (g.bl.alloc g.bl.size o)
end
theorem whi_fits {x : Int} (h : -M127 ≤ x ∧ x < M127) : fit (x / M64) = true := fit_yes (by unfold M127 M63 M64 at *; omega) (by unfold M127 M63 M64 at *; omega)
theorem ret3 {a b c d : Int} {p q : Bool} (h : a = b) (k : c = d) (l : p = q) : Ending.returned (.tuple #[.int .i64 a, .int .u64 c, .bool p]) = .returned (.tuple #[.int .i64 b, .int .u64 d, .bool q]) := by rw [h, k, l]

set_option maxHeartbeats 8000000 in
set_option maxRecDepth 100000 in
theorem limbs_any (na : Bool) (a : Option Addr) (n ca : Nat) (da : List Int) (x : Int) (w : World) (ha : Bg w na a n ca da x) (sx : Sm2 x) :
    Calls Try.prog 40 #[.agg #[.bool na, .slice a n ca]] w fun e w' => e = .returned (.tuple #[.int .i64 (whi x), .int .u64 (wlo x), .bool (wfit x)]) ∧ Below w.heap.size w w' := by
  have HA : Hid _ := ha
  have SX : Hid (Sm x) := by show Sm x; exact sm_lt sx.1 sx.2
  clear ha sx
  go_enter Try.func40, Try.ntmps40
  go_wp2_with fail
  refine (bwide_any _ _ _ (by decide) (by decide) (by decide) (by decide)).mono ?_
  rintro e w2 ⟨⟨s2, a2, n2, c2, d2, rfl, g2, f2⟩, hb2⟩
  have S0 := Sits.new w na a n ca
  have al : Below w.heap.size w (w.alloc (.cells #[.bool na, .slice a n ca] 35)) := (Below.refl _ _).alloc (Nat.le_refl _) _
  have al2 : Below w2.heap.size w2 (w2.alloc (.cells #[.bool s2, .slice a2 n2 c2] 35)) := (Below.refl _ _).alloc (Nat.le_refl _) _
  have B2 := al.trans (hb2.mono al.size)
  have B3 := B2.trans (al2.mono B2.size)
  have X : XY2 w w.heap.size w2.heap.size na s2 a a2 n n2 ca c2 da d2 x (val 4611686018427387904 0) (w2.alloc (.cells #[.bool s2, .slice a2 n2 c2] 35)) :=
    ⟨(S0.below hb2).below al2, Sits.new w2 s2 a2 n2 c2, HA.out.below B3, g2.below al2, B3⟩
  have HX : Hid _ := X
  have pl : w.heap.size < w2.heap.size := by have := hb2.size; simp at this; omega
  have fz5 : Hid (∀ o, (w2.alloc (.cells #[.bool s2, .slice a2 n2 c2] 35)).frozen? ⟨w2.heap.size, o, none⟩ = false) := fun o => by simp
  go_upto_region 2 with fail
  clear S0 al al2 B2 B3 g2 f2 hb2 X
  have t0 := HX.out.y.c0
  have t1 := HX.out.y.c1
  have u0 := HX.out.x.c0
  generalize hp5 : w2.heap.size = p5 at *
  generalize hW : w2.alloc (.cells #[.bool s2, .slice a2 n2 c2] 35) = W at *
  clear hW hp5
  go_cut [] (fun wx => ∃ (sy : Bool) (ay : Option Addr) (ny cy : Nat) (dy : List Int), Hid (XY2 w w.heap.size p5 na sy a ay n ny ca cy da dy x M127 wx))
  case first =>
    go_wp2_with fail
    refine (badd_sm HX.out.gy HX.out.gy sm126 sm126).mono ?_
    rw [two127]
    rintro e w3 ⟨⟨s3, a3, n3, c3, d3, rfl, g3, f3⟩, hb3⟩
    have X3 := HX.out.below hb3
    have e0 := X3.y.c0
    have e1 := X3.y.c1
    have e2 : ∀ o, w3.frozen? ⟨p5, o, none⟩ = false := fun o => by rw [hb3.frozen (p := ⟨p5, o, none⟩) HX.out.y.lt]; exact fz5.out o
    have oldx := HA.out.dg.old
    have XN : Hid (XY2 w w.heap.size p5 na s3 a a3 n n3 ca c3 da d3 x M127 ((w3.setCell ⟨p5, 0, none⟩ (.bool s3)).setCell ⟨p5, 1, none⟩ (.slice a3 n3 c3))) :=
      ⟨⟨(set2_other (by simp; omega)).trans X3.x.c0, (set2_other (by simp; omega)).trans X3.x.c1, by simpa using X3.x.lt⟩, Sits.set X3.y.c0 X3.y.c1 X3.y.lt _ _ _ _, X3.gx.store (fun p z hz => by have := oldx p z hz; omega) _ _, g3.store (fun p z hz => by have := f3 p z hz; have := HX.out.y.lt; omega) _ _, (X3.bl.setCell (p := ⟨p5, 0, none⟩) (by show w.heap.size ≤ p5; omega) _).setCell (p := ⟨p5, 1, none⟩) (by show w.heap.size ≤ p5; omega) _⟩
    clear X3 t0 t1 u0 oldx hb3 g3 f3
    go_wp2
    go_meet
    case rel => exact ⟨s3, a3, n3, c3, d3, XN.out⟩
  case rest =>
    obtain ⟨sy, ay, ny, cy, dy, Y⟩ := hcut
    clear t0 t1 u0 HX fz5
    have t0 := Y.out.x.c0
    have t1 := Y.out.x.c1
    have u0 := Y.out.y.c0
    have u1 := Y.out.y.c1
    have R : Rd2 wc w.heap.size p5 na sy a ay n ny ca cy wc := ⟨t0, t1, u0, u1, Below.refl _ _⟩
    by_cases c1 : x < -M127
    · have f : wfit x = false := wfit_no (Or.inl c1)
      have F : Hid _ := And.intro f (And.intro (whi_no f) (wlo_no f))
      have k1 : cmpI x (-M127) = -1 := cmpI_lt c1
      have BY : Hid _ := Y.out.bl
      clear f c1
      go_wp2_with fail
      go_region_with (first | (go_at_call 20; refine (bminus_any _ _ _ _ _ _ _ (Y.out.gy.below (Below.refl _ _).drew)).mono ?_; rintro e w4 ⟨⟨sg4, rfl, g4⟩, hb4⟩; have Y4 := Y.out.below ((Below.refl _ _).drew.trans hb4); have r0 := Y4.x.c0; have r1 := Y4.x.c1) | (go_at_call 28; refine (bcmp_sm (Y.out.gx.below ((Below.refl _ _).drew.trans hb4)) g4 SX.out smM').mono ?_; rw [k1]; rintro e w5 ⟨rfl, hb5⟩))
      all_goals
        have b4 := BY.out.drew.trans (hb4.mono BY.out.size)
        have BF : Hid _ := b4.trans (hb5.mono b4.size)
        go_wp2
        go_ret3
        exact ⟨ret3 F.out.2.1.symm F.out.2.2.symm F.out.1.symm, BF.out⟩
    · have k1 : decide (cmpI x (-M127) < 0) = false := by
        rcases Int.lt_or_eq_of_le (show -M127 ≤ x by omega) with h | h
        · rw [cmpI_gt h]; decide
        · rw [cmpI_eq h.symm]; decide
      by_cases c2 : M127 ≤ x
      · have f : wfit x = false := wfit_no (Or.inr c2)
        have F : Hid _ := And.intro f (And.intro (whi_no f) (wlo_no f))
        have k2 : 0 ≤ cmpI x M127 := by
          rcases Int.lt_or_eq_of_le c2 with h | h
          · rw [cmpI_gt h]; decide
          · rw [cmpI_eq h.symm]; decide
        clear f c1 c2
        go_wp2_with fail
        go_region_held3 (Rd2 wc w.heap.size p5 na sy a ay n ny ca cy) (first | exact R.mk (Below.refl _ _).drew | exact Rd2.call R (by assumption) (by assumption)) (first | (go_at_call 20; refine (bminus_any _ _ _ _ _ _ _ (Y.out.gy.below (Below.refl _ _).drew)).mono ?_; rintro e w4 ⟨⟨sg4, rfl, g4⟩, hb4⟩; have tok : True := trivial) | (go_at_call 28; have tk := tok; clear tok; refine (bcmp_sm (Y.out.gx.below (show Rd2 wc w.heap.size p5 na sy a ay n ny ca cy _ by assumption).2.2.2.2) g4 SX.out smM').mono ?_; rintro e w5 ⟨rfl, hb5⟩) | (go_at_call 28; refine (bcmp_sm (Y.out.gx.below (show Rd2 wc w.heap.size p5 na sy a ay n ny ca cy _ by assumption).2.2.2.2) (Y.out.gy.below (show Rd2 wc w.heap.size p5 na sy a ay n ny ca cy _ by assumption).2.2.2.2) SX.out smM).mono ?_; rintro e w6 ⟨rfl, hb6⟩))
        have BZ := (show Rd2 wc w.heap.size p5 na sy a ay n ny ca cy _ by assumption).2.2.2.2
        have BF : Hid _ := Y.out.bl.trans (BZ.mono Y.out.bl.size)
        clear BZ
        go_wp2
        go_ret3
        exact ⟨ret3 F.out.2.1.symm F.out.2.2.symm F.out.1.symm, BF.out⟩
      · have k2 : decide (0 ≤ cmpI x M127) = false := by rw [cmpI_lt (show x < M127 by omega)]; decide
        have f : wfit x = true := wfit_yes (by omega) (by omega)
        have F : Hid _ := And.intro f (And.intro (whi_yes f) (wlo_yes f))
        have BD : Hid (-M127 ≤ x ∧ x < M127) := ⟨by omega, by omega⟩
        clear f c1 c2
        go_wp2_with fail
        go_region_held3 (Rd2 wc w.heap.size p5 na sy a ay n ny ca cy) (first | exact R.mk (Below.refl _ _).drew | exact Rd2.call R (by assumption) (by assumption)) (first | (go_at_call 20; refine (bminus_any _ _ _ _ _ _ _ (Y.out.gy.below (Below.refl _ _).drew)).mono ?_; rintro e w4 ⟨⟨sg4, rfl, g4⟩, hb4⟩; have tok : True := trivial) | (go_at_call 28; have tk := tok; clear tok; refine (bcmp_sm (Y.out.gx.below (show Rd2 wc w.heap.size p5 na sy a ay n ny ca cy _ by assumption).2.2.2.2) g4 SX.out smM').mono ?_; rintro e w5 ⟨rfl, hb5⟩) | (go_at_call 28; refine (bcmp_sm (Y.out.gx.below (show Rd2 wc w.heap.size p5 na sy a ay n ny ca cy _ by assumption).2.2.2.2) (Y.out.gy.below (show Rd2 wc w.heap.size p5 na sy a ay n ny ca cy _ by assumption).2.2.2.2) SX.out smM).mono ?_; rintro e w6 ⟨rfl, hb6⟩))
        have BZ := (show Rd2 wc w.heap.size p5 na sy a ay n ny ca cy _ by assumption).2.2.2.2
        have Y6 : Hid _ := Y.out.below BZ
        clear BZ
        clear t0 t1 u0 u1 R k1 k2 Y
        go_wp2_with fail
        refine (u_any _ _ _ (by decide) (by decide)).mono ?_
        rintro e v1 ⟨⟨s1, a1, n1, c1, d1, rfl, g1, f1⟩, hb1⟩
        go_wp2_with fail
        refine (u_any _ _ _ (by decide) (by decide)).mono ?_
        rintro e v2 ⟨⟨s2', a2', n2', c2', d2', rfl, g2, f2⟩, hb2⟩
        go_wp2_with fail
        refine (bmul_sm (g1.below hb2) g2 sm32 sm32).mono ?_
        rintro e v3 ⟨⟨s3, a3, n3, c3, d3, rfl, g3, f3⟩, hb3⟩
        have al3 : Below v3.heap.size v3 (v3.alloc (.cells #[.bool s3, .slice a3 n3 c3] 35)) := (Below.refl _ _).alloc (Nat.le_refl _) _
        have Y7 : Hid _ := (((Y6.out.below hb1).below hb2).below hb3).below al3
        have S6 : Hid _ := Sits.new v3 s3 a3 n3 c3
        have G6 : Hid (Bg (v3.alloc (.cells #[.bool s3, .slice a3 n3 c3] 35)) s3 a3 n3 c3 d3 M64) := g3.below al3
        have t0 := Y7.out.x.c0
        have t1 := Y7.out.x.c1
        have nl : 0 < n3 := by
          rcases Nat.eq_zero_or_pos n3 with z | z
          · have v := G6.out.val
            have : d3 = [] := List.length_eq_zero_iff.1 (by rw [G6.out.dg.len]; exact z)
            rw [this] at v
            exfalso
            cases s3
            · simp [sgn, dval, M64] at v
            · simp [sgn, dval, M64] at v
          · exact z
        have sm64 : Hid (Sm2 M64) := by show Sm2 M64; unfold Sm2; decide
        clear hb1 hb2 hb3 g1 g2 g3 f1 f2 f3 al3 Y6
        go_wp2_with fail
        refine (bfloor_walk _ _ _ _ _ _ _ _ _ _ _ _ _ Y7.out.gx G6.out SX.out sm64.out nl).mono ?_
        rintro e v4 ⟨⟨s4, a4, n4, c4, d4, rfl, g4, f4⟩, hb4⟩
        rw [Int.fdiv_eq_ediv_of_nonneg _ (show (0 : Int) ≤ M64 by decide)] at g4
        have al4 : Below v4.heap.size v4 (v4.alloc (.cells #[.bool s4, .slice a4 n4 c4] 35)) := (Below.refl _ _).alloc (Nat.le_refl _) _
        have Y8 : Hid _ := (Y7.out.below hb4).below al4
        have S8 : Hid _ := (S6.out.below hb4).below al4
        have G8 : Hid _ := (G6.out.below hb4).below al4
        have S7 : Hid _ := Sits.new v4 s4 a4 n4 c4
        have G7 : Hid _ := g4.below al4
        have q0 := S7.out.c0
        have q1 := S7.out.c1
        have smq : Hid (Sm (x / M64)) := by
          show Sm _
          have := BD.out
          have : M127 < pw 15 := by decide
          unfold Sm; unfold M127 M64 at *; omega
        clear t0 t1 hb4 g4 f4 al4 Y7 S6 G6 nl
        go_wp2_with fail
        refine (bint_any _ _ _ _ _ _ _ G7.out smq.out).mono ?_
        rintro e v5 ⟨rfl, hb5⟩
        have Y9 : Hid _ := Y8.out.below hb5
        have S9 : Hid _ := S8.out.below hb5
        have G9 : Hid _ := G8.out.below hb5
        have T9 : Hid _ := S7.out.below hb5
        have U9 : Hid _ := G7.out.below hb5
        clear q0 q1 Y8 S8 G8 S7 G7 hb5
        generalize v3.heap.size = p6 at *
        generalize v4.heap.size = p7 at *
        have t0 := Y9.out.x.c0
        have t1 := Y9.out.x.c1
        have t2 := T9.out.c0
        have t3 := T9.out.c1
        have t4 := S9.out.c0
        have t5 := S9.out.c1
        have R : Rd3 v5 w.heap.size p7 p6 na s4 s3 a a4 a3 n n4 n3 ca c4 c3 v5 := ⟨t0, t1, t2, t3, t4, t5, Below.refl _ _⟩
        have sm64' : Hid (Sm M64) := by show Sm M64; unfold Sm; decide
        have smqm : Hid (Sm (x / M64 * M64)) := by
          show Sm _
          have := BD.out
          have : M127 + M127 < pw 15 := by decide
          unfold Sm; unfold M127 M64 at *; omega
        have smqn : Hid (Sm (-(x / M64 * M64))) := by
          show Sm _
          have := BD.out
          have : M127 + M127 < pw 15 := by decide
          unfold Sm; unfold M127 M64 at *; omega
        have ev : Hid (x + -(x / M64 * M64) = x % M64) := by show _ = _; unfold M64; omega
        go_upto_region 8 with fail
        go_cut [10] (fun p wx => ∃ c, p = .pointer (some ⟨c, 0, none⟩) ∧ Made v5 wx c (x % M64))
        case first =>
          go_region_held3 (Rd3 v5 w.heap.size p7 p6 na s4 s3 a a4 a3 n n4 n3 ca c4 c3) (first | exact R.mk (Below.refl _ _).drew | exact Rd3.call R (by assumption) (by assumption) | exact Rd3.alloc R (by assumption) _ | exact R.mk (E3.alloc E3.size _) | exact R.mk ((E3.setCell (p := ⟨_, 0, none⟩) (by first | exact Nat.le_refl _ | exact E1.size | exact E2.size) _).setCell (p := ⟨_, 1, none⟩) (by first | exact Nat.le_refl _ | exact E1.size | exact E2.size) _)) (first | (go_at_call 21; refine (bmul_sm (U9.out.below (show Rd3 v5 w.heap.size p7 p6 na s4 s3 a a4 a3 n n4 n3 ca c4 c3 _ by assumption).bl) (G9.out.below (show Rd3 v5 w.heap.size p7 p6 na s4 s3 a a4 a3 n n4 n3 ca c4 c3 _ by assumption).bl) smq.out sm64'.out).mono ?_; rintro e z1 ⟨⟨x1, y1, m1, k1, j1, rfl, g1, f1⟩, hb1⟩; have E1 := (show Rd3 v5 w.heap.size p7 p6 na s4 s3 a a4 a3 n n4 n3 ca c4 c3 _ by assumption).out' hb1; try (have P1 := (Plc.new _).below ((Below.refl _ _).drew.trans hb1))) | (go_at_call 20; refine (bminus_any _ _ _ _ _ _ _ (by first | exact g1 | exact g1.below ((Below.refl _ _).alloc (Nat.le_refl _) _))).mono ?_; rintro e z2 ⟨⟨x2, rfl, g2⟩, hb2⟩; have E2 := (show Rd3 v5 w.heap.size p7 p6 na s4 s3 a a4 a3 n n4 n3 ca c4 c3 _ by assumption).out' hb2; (try (have P2 := P1.below hb2)); (try (have P2 := (Plc.new _).below hb2))) | (go_at_call 19; refine (badd_sm (x := x) (y := -(x / M64 * M64)) (Y9.out.gx.below (show Rd3 v5 w.heap.size p7 p6 na s4 s3 a a4 a3 n n4 n3 ca c4 c3 _ by assumption).bl) (by first | exact g2 | exact g2.below ((Below.refl _ _).alloc (Nat.le_refl _) _)) SX.out smqn.out).mono ?_; rw [ev.out]; rintro e z3 ⟨⟨x3, y3, m3, k3, j3, rfl, g3, f3⟩, hb3⟩; have E3 := (show Rd3 v5 w.heap.size p7 p6 na s4 s3 a a4 a3 n n4 n3 ca c4 c3 _ by assumption).out' hb3; (try (have P3 := P2.below hb3)); (try (have P3 := (Plc.new _).below hb3)); (try (have q0 := P3.c0)); (try (have q1 := P3.c1)); (try (have q2 := P3.fz))))
          all_goals go_wp2
          all_goals go_meet
          all_goals first | exact ⟨_, rfl, madeB E3 g3 (by first | exact E2.size | (have := E2.size; simp; omega)) f3 (by first | exact Nat.le_refl _ | exact E1.size | exact E2.size) (by first | exact P2.lt | simp) P3.c0 P3.c1⟩ | exact ⟨_, rfl, madeA E3 g3 E2.size f3⟩
        case rest =>
          obtain ⟨c, rfl, sl, al, ml, cl, dl, SL, GL, hbl, hcl, hfl⟩ := hcut
          clear t0 t1 t2 t3 t4 t5 R
          have BF : Hid _ := Y9.out.bl.trans (hbl.mono Y9.out.bl.size)
          have DV : Hid (dval dl = x % M64) := GL.abs (by unfold M64; omega)
          have FQ : Hid _ := clip_yes (whi_fits BD.out)
          have HGL : Hid _ := GL
          have m32 := GL.small
          have s1 := SL.c1
          obtain ⟨ba, oa, h1, h2⟩ := GL.dg.cell
          have H1 : Hid _ := h1
          have H2 : Hid _ := h2
          clear h1 h2 SL GL hbl hcl hfl
          go_wp2_with fail
          go_loop [11, 12] (fun uv iv => ∃ k : Nat, k ≤ ml ∧ iv = .int .i64 ((k : Int) - 1) ∧ uv = .int .u64 (dval (dl.drop k))) (fun _ i => (intOf i + 1).toNat)
          case atStart => exact ⟨ml, Nat.le_refl _, rfl, by rw [List.drop_of_length_le (by rw [HGL.out.dg.len]; exact Nat.le_refl _)]; rfl⟩
          case round =>
            obtain ⟨k, hk, rfl, rfl⟩ := hrel
            cases k with
            | succ k =>
              rw [show ((k + 1 : Nat) : Int) - 1 = (k : Int) by omega]
              have kn : (k : Int) < (ml : Int) := by omega
              obtain rfl := H1.out (by omega)
              have e1 := H2.out k (by omega)
              have y := HGL.out.dg.ok.getD k
              have dc := drop_cons dl k (by rw [HGL.out.dg.len]; omega)
              have d0 := dval_nonneg (HGL.out.dg.ok.drop (k + 1))
              have d1 : dval (dl.drop (k + 1)) < 281474976710656 := by
                have := drop_le HGL.out.dg.ok k
                have e := DV.out
                have := y.1
                have : x % M64 < 18446744073709551616 := by unfold M64; omega
                omega
              have DC : Hid _ := dc
              clear dc
              generalize dval (dl.drop (k + 1)) = u at *
              generalize dl.getD k 0 = xx at *
              unfold K16 at y
              have o16 := or16 d0 d1 y.1 y.2
              rw [wrapId (by omega) (by omega)] at o16
              obtain ⟨y0, y1⟩ := y
              go_wp2
              go_round
              case rel => exact ⟨k, by omega, by go_num, by rw [DC.out]⟩
              case measure => simp [intOf]
            | zero =>
              have u0 : dl.drop 0 = dl := rfl
              rw [u0]
              go_wp2
              go_ret3
              exact ⟨ret3 (by rw [FQ.out, F.out.2.1]) (by rw [DV.out, F.out.2.2]) F.out.1.symm, BF.out⟩

end Go.Proofs.Ytlgdolchnlagcaa
