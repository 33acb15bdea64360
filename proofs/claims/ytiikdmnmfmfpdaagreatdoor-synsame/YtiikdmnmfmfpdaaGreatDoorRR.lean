/- The walks over package publicanref1, on: a day's text read. -/
import Derived.Test.YtiikdmnmfmfpdaaGreatDoorR2
import Derived.RegionTactic
namespace Go.Proofs.YtiikdmnmfmfpdaaGreatDoor
open Go.RowKit
set_option linter.unusedVariables false
set_option linter.unusedSimpArgs false

/-- Three numbers in memory. -/
structure R3 (w0 w : World) (b : Nat) (x y z : Int) : Prop where
  c0 : w.cell? ⟨b, 0, none⟩ = some (.int .i64 x)
  c1 : w.cell? ⟨b, 1, none⟩ = some (.int .i64 y)
  c2 : w.cell? ⟨b, 2, none⟩ = some (.int .i64 z)
  fz : ∀ o, w.frozen? ⟨b, o, none⟩ = false
  bl : Below w0.heap.size w0 w
  ge : w0.heap.size ≤ b

theorem R3.drewN {w0 w : World} {b : Nat} {x y z : Int} (h : R3 w0 w b x y z) (n : Nat) : R3 w0 (w.drewN n) b x y z := by
  have q := below_drewN w n
  have lt := World.block_lt_of_cell? _ _ h.c0
  exact ⟨by rw [q.cell (p := ⟨b, 0, none⟩) lt]; exact h.c0, by rw [q.cell (p := ⟨b, 1, none⟩) lt]; exact h.c1, by rw [q.cell (p := ⟨b, 2, none⟩) lt]; exact h.c2, fun o => by rw [q.frozen (p := ⟨b, o, none⟩) lt]; exact h.fz o, nextB h.bl q, h.ge⟩
theorem R3.set0 {w0 w : World} {b : Nat} {x y z : Int} (h : R3 w0 w b x y z) (v : Int) : R3 w0 (w.setCell ⟨b, 0, none⟩ (.int .i64 v)) b v y z :=
  ⟨World.cell?_setCell_same _ _ _ h.c0, (World.cell?_setCell_other _ _ _ _ (by simp)).trans h.c1, (World.cell?_setCell_other _ _ _ _ (by simp)).trans h.c2, fun o => by simpa using h.fz o, h.bl.setCell (p := ⟨b, 0, none⟩) h.ge _, h.ge⟩
theorem R3.set1 {w0 w : World} {b : Nat} {x y z : Int} (h : R3 w0 w b x y z) (v : Int) : R3 w0 (w.setCell ⟨b, 1, none⟩ (.int .i64 v)) b x v z :=
  ⟨(World.cell?_setCell_other _ _ _ _ (by simp)).trans h.c0, World.cell?_setCell_same _ _ _ h.c1, (World.cell?_setCell_other _ _ _ _ (by simp)).trans h.c2, fun o => by simpa using h.fz o, h.bl.setCell (p := ⟨b, 1, none⟩) h.ge _, h.ge⟩
theorem R3.set2 {w0 w : World} {b : Nat} {x y z : Int} (h : R3 w0 w b x y z) (v : Int) : R3 w0 (w.setCell ⟨b, 2, none⟩ (.int .i64 v)) b x y v :=
  ⟨(World.cell?_setCell_other _ _ _ _ (by simp)).trans h.c0, (World.cell?_setCell_other _ _ _ _ (by simp)).trans h.c1, World.cell?_setCell_same _ _ _ h.c2, fun o => by simpa using h.fz o, h.bl.setCell (p := ⟨b, 2, none⟩) h.ge _, h.ge⟩
theorem R3.drew {w0 w : World} {b : Nat} {x y z : Int} (h : R3 w0 w b x y z) : R3 w0 w.drew b x y z := h.drewN 1
abbrev S3 (w0 : World) (b : Nat) (x y z : Int) (w : World) : Prop := w.cell? ⟨b, 0, none⟩ = some (.int .i64 x) ∧ w.cell? ⟨b, 1, none⟩ = some (.int .i64 y) ∧ w.cell? ⟨b, 2, none⟩ = some (.int .i64 z) ∧ Below w0.heap.size w0 w
theorem R3.all {w0 w : World} {b : Nat} {x y z : Int} (h : R3 w0 w b x y z) : S3 w0 b x y z w := ⟨h.c0, h.c1, h.c2, h.bl⟩
theorem R3.new (w : World) (t : TypeId) : R3 w (w.alloc (.cells #[.int .i64 0, .int .i64 0, .int .i64 0] t)) w.heap.size 0 0 0 :=
  ⟨by simp, by simp, by simp, fun o => by simp, (Below.refl _ _).alloc (Nat.le_refl _) _, Nat.le_refl _⟩

def fa (c0 c1 c2 c3 c4 c5 c6 c7 c8 c9 : UInt8) : Nat → Int
  | 0 => 0
  | 1 => dig c0
  | 2 => 10 * (dig c0) + dig c1
  | 3 => 10 * (10 * (dig c0) + dig c1) + dig c2
  | 4 => 10 * (10 * (10 * (dig c0) + dig c1) + dig c2) + dig c3
  | 5 => 10 * (10 * (10 * (dig c0) + dig c1) + dig c2) + dig c3
  | 6 => 10 * (10 * (10 * (dig c0) + dig c1) + dig c2) + dig c3
  | 7 => 10 * (10 * (10 * (dig c0) + dig c1) + dig c2) + dig c3
  | 8 => 10 * (10 * (10 * (dig c0) + dig c1) + dig c2) + dig c3
  | 9 => 10 * (10 * (10 * (dig c0) + dig c1) + dig c2) + dig c3
  | _ => 10 * (10 * (10 * (dig c0) + dig c1) + dig c2) + dig c3
def fb (c0 c1 c2 c3 c4 c5 c6 c7 c8 c9 : UInt8) : Nat → Int
  | 0 => 0
  | 1 => 0
  | 2 => 0
  | 3 => 0
  | 4 => 0
  | 5 => 0
  | 6 => dig c5
  | 7 => 10 * (dig c5) + dig c6
  | 8 => 10 * (dig c5) + dig c6
  | 9 => 10 * (dig c5) + dig c6
  | _ => 10 * (dig c5) + dig c6
def fc (c0 c1 c2 c3 c4 c5 c6 c7 c8 c9 : UInt8) : Nat → Int
  | 0 => 0
  | 1 => 0
  | 2 => 0
  | 3 => 0
  | 4 => 0
  | 5 => 0
  | 6 => 0
  | 7 => 0
  | 8 => 0
  | 9 => dig c8
  | _ => 10 * (dig c8) + dig c9

theorem fa_end (c0 c1 c2 c3 c4 c5 c6 c7 c8 c9 : UInt8) : fa c0 c1 c2 c3 c4 c5 c6 c7 c8 c9 10 = dg4 c0 c1 c2 c3 := by show 10 * (10 * (10 * (dig c0) + dig c1) + dig c2) + dig c3 = _; unfold dg4; omega
theorem fb_end (c0 c1 c2 c3 c4 c5 c6 c7 c8 c9 : UInt8) : fb c0 c1 c2 c3 c4 c5 c6 c7 c8 c9 10 = dg2 c5 c6 := by show 10 * (dig c5) + dig c6 = _; unfold dg2; omega
theorem fc_end (c0 c1 c2 c3 c4 c5 c6 c7 c8 c9 : UInt8) : fc c0 c1 c2 c3 c4 c5 c6 c7 c8 c9 10 = dg2 c8 c9 := by show 10 * (dig c8) + dig c9 = _; unfold dg2; omega

theorem dig_bd (c : UInt8) : -48 ≤ dig c ∧ dig c ≤ 207 := by have := c.toNat_lt; unfold dig; omega

def rdN (c0 c1 c2 c3 c4 c5 c6 c7 c8 c9 : UInt8) : Int := if fitB c0 c1 c2 c3 c4 c5 c6 c7 c8 c9 then dayN (dg4 c0 c1 c2 c3) (dg2 c5 c6) (dg2 c8 c9) else 0
def rdB (c0 c1 c2 c3 c4 c5 c6 c7 c8 c9 : UInt8) : Bool := if fitB c0 c1 c2 c3 c4 c5 c6 c7 c8 c9 then dateB (dg4 c0 c1 c2 c3) (dg2 c5 c6) (dg2 c8 c9) else false

set_option maxHeartbeats 1000000 in
theorem rread_other (s : ByteArray) (w : World) (h : s.size ≠ 10) (hs : s.size < 9223372036854775808) :
    Calls Tryz.prog 65 #[.string s] w fun e w' => e = .returned (.tuple #[.int .i64 0, .bool false]) ∧ w = w' := by
  have h' : ((s.size : Int) != 10) = true := by rw [bne_iff_ne]; omega
  go_enter Tryz.func65, Tryz.ntmps65
  go_wp2
  go_ret2
  exact ⟨rfl, rfl⟩

theorem rd_no {c0 c1 c2 c3 c4 c5 c6 c7 c8 c9 : UInt8} (h : fitB c0 c1 c2 c3 c4 c5 c6 c7 c8 c9 = false) : rdN c0 c1 c2 c3 c4 c5 c6 c7 c8 c9 = 0 ∧ rdB c0 c1 c2 c3 c4 c5 c6 c7 c8 c9 = false := by unfold rdN rdB; rw [h]; exact ⟨rfl, rfl⟩
theorem rd_yes {c0 c1 c2 c3 c4 c5 c6 c7 c8 c9 : UInt8} (h : fitB c0 c1 c2 c3 c4 c5 c6 c7 c8 c9 = true) : rdN c0 c1 c2 c3 c4 c5 c6 c7 c8 c9 = dayN (dg4 c0 c1 c2 c3) (dg2 c5 c6) (dg2 c8 c9) ∧ rdB c0 c1 c2 c3 c4 c5 c6 c7 c8 c9 = dateB (dg4 c0 c1 c2 c3) (dg2 c5 c6) (dg2 c8 c9) := by unfold rdN rdB; rw [h]; exact ⟨rfl, rfl⟩

set_option maxHeartbeats 1000000 in
theorem rread_stroke (c0 c1 c2 c3 c4 c5 c6 c7 c8 c9 : UInt8) (w : World) (k : (c4.toNat : Int) ≠ 45 ∨ (c7.toNat : Int) ≠ 45) :
    Calls Tryz.prog 65 #[.string ⟨#[c0, c1, c2, c3, c4, c5, c6, c7, c8, c9]⟩] w fun e w' => e = .returned (.tuple #[.int .i64 (rdN c0 c1 c2 c3 c4 c5 c6 c7 c8 c9), .bool (rdB c0 c1 c2 c3 c4 c5 c6 c7 c8 c9)]) ∧ Below w.heap.size w w' := by
  have f : fitB c0 c1 c2 c3 c4 c5 c6 c7 c8 c9 = false := by
    cases q : fitB c0 c1 c2 c3 c4 c5 c6 c7 c8 c9
    · rfl
    · obtain ⟨_, _, _, _, _, _, _, _, h4, h7⟩ := fit_digs q
      omega
  rw [(rd_no f).1, (rd_no f).2]
  clear f
  have x4 : ((((⟨#[c0, c1, c2, c3, c4, c5, c6, c7, c8, c9]⟩ : ByteArray)[4]'(by show 4 < 10; omega)).toNat : Nat) : Int) = (c4.toNat : Int) := rfl
  have x7 : ((((⟨#[c0, c1, c2, c3, c4, c5, c6, c7, c8, c9]⟩ : ByteArray)[7]'(by show 7 < 10; omega)).toNat : Nat) : Int) = (c7.toNat : Int) := rfl
  generalize (c4.toNat : Int) = C4 at *
  generalize (c7.toNat : Int) = C7 at *
  by_cases k4 : C4 = 45
  · subst k4
    have k7 : (C7 != 45) = true := by rw [bne_iff_ne]; omega
    clear k
    go_enter Tryz.func65, Tryz.ntmps65
    go_wp2
    go_ret2
    exact ⟨rfl, Below.refl _ _⟩
  · have k4' : (C4 != 45) = true := by rw [bne_iff_ne]; exact k4
    clear k k4
    go_enter Tryz.func65, Tryz.ntmps65
    go_wp2
    go_ret2
    exact ⟨rfl, Below.refl _ _⟩

set_option maxHeartbeats 8000000 in
theorem rread_10 (c0 c1 c2 c3 c4 c5 c6 c7 c8 c9 : UInt8) (w : World) (k4 : (c4.toNat : Int) = 45) (k7 : (c7.toNat : Int) = 45) :
    Calls Tryz.prog 65 #[.string ⟨#[c0, c1, c2, c3, c4, c5, c6, c7, c8, c9]⟩] w fun e w' => e = .returned (.tuple #[.int .i64 (rdN c0 c1 c2 c3 c4 c5 c6 c7 c8 c9), .bool (rdB c0 c1 c2 c3 c4 c5 c6 c7 c8 c9)]) ∧ Below w.heap.size w w' := by
  have FB : Hid (fitB c0 c1 c2 c3 c4 c5 c6 c7 c8 c9 = (isDig c0 && isDig c1 && isDig c2 && isDig c3 && decide ((c4.toNat : Int) = 45) && isDig c5 && isDig c6 && decide ((c7.toNat : Int) = 45) && isDig c8 && isDig c9)) := (rfl : _ = _)
  have x4 : ((((⟨#[c0, c1, c2, c3, c4, c5, c6, c7, c8, c9]⟩ : ByteArray)[4]'(by show 4 < 10; omega)).toNat : Nat) : Int) = 45 := k4
  have x7 : ((((⟨#[c0, c1, c2, c3, c4, c5, c6, c7, c8, c9]⟩ : ByteArray)[7]'(by show 7 < 10; omega)).toNat : Nat) : Int) = 45 := k7
  have H4 : Hid _ := k4
  have H7 : Hid _ := k7
  clear k4 k7
  have RN : Hid _ := R3.new w 3
  go_enter Tryz.func65, Tryz.ntmps65
  go_wp2_with fail
  go_loopg [5] 10 (fun g iv wr => ∃ j : Nat, j ≤ 10 ∧ g = 10 - j ∧ iv = .int .i64 j ∧ Hid (R3 w wr w.heap.size (fa c0 c1 c2 c3 c4 c5 c6 c7 c8 c9 j) (fb c0 c1 c2 c3 c4 c5 c6 c7 c8 c9 j) (fc c0 c1 c2 c3 c4 c5 c6 c7 c8 c9 j)) ∧ Hid ((0 < j → isDig c0 = true) ∧ (1 < j → isDig c1 = true) ∧ (2 < j → isDig c2 = true) ∧ (3 < j → isDig c3 = true) ∧ (4 < j → decide ((c4.toNat : Int) = 45) = true) ∧ (5 < j → isDig c5 = true) ∧ (6 < j → isDig c6 = true) ∧ (7 < j → decide ((c7.toNat : Int) = 45) = true) ∧ (8 < j → isDig c8 = true) ∧ (9 < j → isDig c9 = true)))
  case atStart => exact ⟨0, by omega, rfl, rfl, RN, fun h => by omega, fun h => by omega, fun h => by omega, fun h => by omega, fun h => by omega, fun h => by omega, fun h => by omega, fun h => by omega, fun h => by omega, fun h => by omega⟩
  case round =>
    obtain ⟨j, hj, rfl, rfl, HR, P⟩ := hrel
    have J : j = 0 ∨ j = 1 ∨ j = 2 ∨ j = 3 ∨ j = 4 ∨ j = 5 ∨ j = 6 ∨ j = 7 ∨ j = 8 ∨ j = 9 ∨ j = 10 := by omega
    clear RN
    rcases J with rfl | rfl | rfl | rfl | rfl | rfl | rfl | rfl | rfl | rfl | rfl
    · have xi : ((((⟨#[c0, c1, c2, c3, c4, c5, c6, c7, c8, c9]⟩ : ByteArray)[0]'(by show 0 < 10; omega)).toNat : Nat) : Int) = (c0.toNat : Int) := rfl
      cases k : isDig c0
      · have E : Hid (fitB c0 c1 c2 c3 c4 c5 c6 c7 c8 c9 = false) := (by rw [FB.out, k]; simp : fitB c0 c1 c2 c3 c4 c5 c6 c7 c8 c9 = false)
        have k' := isDig_no k
        have BL : Hid _ := HR.out.bl
        clear k
        generalize (c0.toNat : Int) = C at *
        rcases k' with k' | ⟨k', k''⟩
        · go_wp2
          go_ret2
          exact ⟨by rw [(rd_no E.out).1, (rd_no E.out).2]; rfl, BL.out⟩
        · go_wp2
          go_ret2
          exact ⟨by rw [(rd_no E.out).1, (rd_no E.out).2]; rfl, BL.out⟩
      · have k' := isDig_of k
        have NX : Hid ((0 < 1 → isDig c0 = true) ∧ (1 < 1 → isDig c1 = true) ∧ (2 < 1 → isDig c2 = true) ∧ (3 < 1 → isDig c3 = true) ∧ (4 < 1 → decide ((c4.toNat : Int) = 45) = true) ∧ (5 < 1 → isDig c5 = true) ∧ (6 < 1 → isDig c6 = true) ∧ (7 < 1 → decide ((c7.toNat : Int) = 45) = true) ∧ (8 < 1 → isDig c8 = true) ∧ (9 < 1 → isDig c9 = true)) := (by
          obtain ⟨p0, p1, p2, p3, p4, p5, p6, p7, p8, p9⟩ := P.out
          exact ⟨fun _ => k, fun h => by omega, fun h => by omega, fun h => by omega, fun h => by omega, fun h => by omega, fun h => by omega, fun h => by omega, fun h => by omega, fun h => by omega⟩)
        have R : R3 w wr w.heap.size (0) (0) (0) := HR.out
        have ND : Hid ((c0.toNat : Int) - 48 = dig c0) := (rfl : (c0.toNat : Int) - 48 = dig c0)
        clear k HR
        obtain ⟨k0, k1⟩ := k'
        have r0 := R.c0
        have rf := R.fz 0
        have HR : Hid _ := R
        clear R
        generalize (c0.toNat : Int) = C at *
        go_upto_region 15 with fail
        go_region
        go_wp2
        go_roundg 9
        case measure => omega
        case rel =>
          have Q := (HR.out.set0 (C - 48)).drew
          rw [ND.out] at Q
          refine ⟨1, by omega, rfl, rfl, ?_, NX⟩
          rw [← ND.out] at Q
          first | exact Q | (rw [ND.out] at Q; exact Q) | (simp only [ND.out]; rw [ND.out] at Q; exact Q)
    · have xi : ((((⟨#[c0, c1, c2, c3, c4, c5, c6, c7, c8, c9]⟩ : ByteArray)[1]'(by show 1 < 10; omega)).toNat : Nat) : Int) = (c1.toNat : Int) := rfl
      cases k : isDig c1
      · have E : Hid (fitB c0 c1 c2 c3 c4 c5 c6 c7 c8 c9 = false) := (by rw [FB.out, k]; simp : fitB c0 c1 c2 c3 c4 c5 c6 c7 c8 c9 = false)
        have k' := isDig_no k
        have BL : Hid _ := HR.out.bl
        clear k
        generalize (c1.toNat : Int) = C at *
        rcases k' with k' | ⟨k', k''⟩
        · go_wp2
          go_ret2
          exact ⟨by rw [(rd_no E.out).1, (rd_no E.out).2]; rfl, BL.out⟩
        · go_wp2
          go_ret2
          exact ⟨by rw [(rd_no E.out).1, (rd_no E.out).2]; rfl, BL.out⟩
      · have k' := isDig_of k
        have NX : Hid ((0 < 2 → isDig c0 = true) ∧ (1 < 2 → isDig c1 = true) ∧ (2 < 2 → isDig c2 = true) ∧ (3 < 2 → isDig c3 = true) ∧ (4 < 2 → decide ((c4.toNat : Int) = 45) = true) ∧ (5 < 2 → isDig c5 = true) ∧ (6 < 2 → isDig c6 = true) ∧ (7 < 2 → decide ((c7.toNat : Int) = 45) = true) ∧ (8 < 2 → isDig c8 = true) ∧ (9 < 2 → isDig c9 = true)) := (by
          obtain ⟨p0, p1, p2, p3, p4, p5, p6, p7, p8, p9⟩ := P.out
          exact ⟨fun _ => p0 (by omega), fun _ => k, fun h => by omega, fun h => by omega, fun h => by omega, fun h => by omega, fun h => by omega, fun h => by omega, fun h => by omega, fun h => by omega⟩)
        have R : R3 w wr w.heap.size (dig c0) (0) (0) := HR.out
        have ND : Hid ((c1.toNat : Int) - 48 = dig c1) := (rfl : (c1.toNat : Int) - 48 = dig c1)
        clear k HR
        obtain ⟨k0, k1⟩ := k'
        have vb : -100000000 ≤ dig c0 ∧ dig c0 ≤ 100000000 := by have := dig_bd c0; omega
        obtain ⟨vb0, vb1⟩ := vb
        generalize hX : dig c0 = X at *
        have HX : Hid _ := hX
        clear hX
        have r0 := R.c0
        have rf := R.fz 0
        have HR : Hid _ := R
        clear R
        generalize (c1.toNat : Int) = C at *
        go_upto_region 15 with fail
        go_region
        go_wp2
        go_roundg 8
        case measure => omega
        case rel =>
          have Q := (HR.out.set0 (10 * X + (C - 48))).drew
          refine ⟨2, by omega, rfl, rfl, ?_, NX⟩
          rw [ND.out] at Q ⊢
          rw [← HX.out] at Q ⊢
          exact Q
    · have xi : ((((⟨#[c0, c1, c2, c3, c4, c5, c6, c7, c8, c9]⟩ : ByteArray)[2]'(by show 2 < 10; omega)).toNat : Nat) : Int) = (c2.toNat : Int) := rfl
      cases k : isDig c2
      · have E : Hid (fitB c0 c1 c2 c3 c4 c5 c6 c7 c8 c9 = false) := (by rw [FB.out, k]; simp : fitB c0 c1 c2 c3 c4 c5 c6 c7 c8 c9 = false)
        have k' := isDig_no k
        have BL : Hid _ := HR.out.bl
        clear k
        generalize (c2.toNat : Int) = C at *
        rcases k' with k' | ⟨k', k''⟩
        · go_wp2
          go_ret2
          exact ⟨by rw [(rd_no E.out).1, (rd_no E.out).2]; rfl, BL.out⟩
        · go_wp2
          go_ret2
          exact ⟨by rw [(rd_no E.out).1, (rd_no E.out).2]; rfl, BL.out⟩
      · have k' := isDig_of k
        have NX : Hid ((0 < 3 → isDig c0 = true) ∧ (1 < 3 → isDig c1 = true) ∧ (2 < 3 → isDig c2 = true) ∧ (3 < 3 → isDig c3 = true) ∧ (4 < 3 → decide ((c4.toNat : Int) = 45) = true) ∧ (5 < 3 → isDig c5 = true) ∧ (6 < 3 → isDig c6 = true) ∧ (7 < 3 → decide ((c7.toNat : Int) = 45) = true) ∧ (8 < 3 → isDig c8 = true) ∧ (9 < 3 → isDig c9 = true)) := (by
          obtain ⟨p0, p1, p2, p3, p4, p5, p6, p7, p8, p9⟩ := P.out
          exact ⟨fun _ => p0 (by omega), fun _ => p1 (by omega), fun _ => k, fun h => by omega, fun h => by omega, fun h => by omega, fun h => by omega, fun h => by omega, fun h => by omega, fun h => by omega⟩)
        have R : R3 w wr w.heap.size (10 * (dig c0) + dig c1) (0) (0) := HR.out
        have ND : Hid ((c2.toNat : Int) - 48 = dig c2) := (rfl : (c2.toNat : Int) - 48 = dig c2)
        clear k HR
        obtain ⟨k0, k1⟩ := k'
        have vb : -100000000 ≤ 10 * (dig c0) + dig c1 ∧ 10 * (dig c0) + dig c1 ≤ 100000000 := by have := dig_bd c0; have := dig_bd c1; omega
        obtain ⟨vb0, vb1⟩ := vb
        generalize hX : 10 * (dig c0) + dig c1 = X at *
        have HX : Hid _ := hX
        clear hX
        have r0 := R.c0
        have rf := R.fz 0
        have HR : Hid _ := R
        clear R
        generalize (c2.toNat : Int) = C at *
        go_upto_region 15 with fail
        go_region
        go_wp2
        go_roundg 7
        case measure => omega
        case rel =>
          have Q := (HR.out.set0 (10 * X + (C - 48))).drew
          refine ⟨3, by omega, rfl, rfl, ?_, NX⟩
          rw [ND.out] at Q ⊢
          rw [← HX.out] at Q ⊢
          exact Q
    · have xi : ((((⟨#[c0, c1, c2, c3, c4, c5, c6, c7, c8, c9]⟩ : ByteArray)[3]'(by show 3 < 10; omega)).toNat : Nat) : Int) = (c3.toNat : Int) := rfl
      cases k : isDig c3
      · have E : Hid (fitB c0 c1 c2 c3 c4 c5 c6 c7 c8 c9 = false) := (by rw [FB.out, k]; simp : fitB c0 c1 c2 c3 c4 c5 c6 c7 c8 c9 = false)
        have k' := isDig_no k
        have BL : Hid _ := HR.out.bl
        clear k
        generalize (c3.toNat : Int) = C at *
        rcases k' with k' | ⟨k', k''⟩
        · go_wp2
          go_ret2
          exact ⟨by rw [(rd_no E.out).1, (rd_no E.out).2]; rfl, BL.out⟩
        · go_wp2
          go_ret2
          exact ⟨by rw [(rd_no E.out).1, (rd_no E.out).2]; rfl, BL.out⟩
      · have k' := isDig_of k
        have NX : Hid ((0 < 4 → isDig c0 = true) ∧ (1 < 4 → isDig c1 = true) ∧ (2 < 4 → isDig c2 = true) ∧ (3 < 4 → isDig c3 = true) ∧ (4 < 4 → decide ((c4.toNat : Int) = 45) = true) ∧ (5 < 4 → isDig c5 = true) ∧ (6 < 4 → isDig c6 = true) ∧ (7 < 4 → decide ((c7.toNat : Int) = 45) = true) ∧ (8 < 4 → isDig c8 = true) ∧ (9 < 4 → isDig c9 = true)) := (by
          obtain ⟨p0, p1, p2, p3, p4, p5, p6, p7, p8, p9⟩ := P.out
          exact ⟨fun _ => p0 (by omega), fun _ => p1 (by omega), fun _ => p2 (by omega), fun _ => k, fun h => by omega, fun h => by omega, fun h => by omega, fun h => by omega, fun h => by omega, fun h => by omega⟩)
        have R : R3 w wr w.heap.size (10 * (10 * (dig c0) + dig c1) + dig c2) (0) (0) := HR.out
        have ND : Hid ((c3.toNat : Int) - 48 = dig c3) := (rfl : (c3.toNat : Int) - 48 = dig c3)
        clear k HR
        obtain ⟨k0, k1⟩ := k'
        have vb : -100000000 ≤ 10 * (10 * (dig c0) + dig c1) + dig c2 ∧ 10 * (10 * (dig c0) + dig c1) + dig c2 ≤ 100000000 := by have := dig_bd c0; have := dig_bd c1; have := dig_bd c2; omega
        obtain ⟨vb0, vb1⟩ := vb
        generalize hX : 10 * (10 * (dig c0) + dig c1) + dig c2 = X at *
        have HX : Hid _ := hX
        clear hX
        have r0 := R.c0
        have rf := R.fz 0
        have HR : Hid _ := R
        clear R
        generalize (c3.toNat : Int) = C at *
        go_upto_region 15 with fail
        go_region
        go_wp2
        go_roundg 6
        case measure => omega
        case rel =>
          have Q := (HR.out.set0 (10 * X + (C - 48))).drew
          refine ⟨4, by omega, rfl, rfl, ?_, NX⟩
          rw [ND.out] at Q ⊢
          rw [← HX.out] at Q ⊢
          exact Q
    · have NX : Hid ((0 < 5 → isDig c0 = true) ∧ (1 < 5 → isDig c1 = true) ∧ (2 < 5 → isDig c2 = true) ∧ (3 < 5 → isDig c3 = true) ∧ (4 < 5 → decide ((c4.toNat : Int) = 45) = true) ∧ (5 < 5 → isDig c5 = true) ∧ (6 < 5 → isDig c6 = true) ∧ (7 < 5 → decide ((c7.toNat : Int) = 45) = true) ∧ (8 < 5 → isDig c8 = true) ∧ (9 < 5 → isDig c9 = true)) := (by
          obtain ⟨p0, p1, p2, p3, p4, p5, p6, p7, p8, p9⟩ := P.out
          exact ⟨fun _ => p0 (by omega), fun _ => p1 (by omega), fun _ => p2 (by omega), fun _ => p3 (by omega), fun _ => decide_eq_true H4.out, fun h => by omega, fun h => by omega, fun h => by omega, fun h => by omega, fun h => by omega⟩)
      go_wp2
      go_roundg 5
      case measure => omega
      case rel => exact ⟨5, by omega, rfl, rfl, HR, NX⟩
    · have xi : ((((⟨#[c0, c1, c2, c3, c4, c5, c6, c7, c8, c9]⟩ : ByteArray)[5]'(by show 5 < 10; omega)).toNat : Nat) : Int) = (c5.toNat : Int) := rfl
      cases k : isDig c5
      · have E : Hid (fitB c0 c1 c2 c3 c4 c5 c6 c7 c8 c9 = false) := (by rw [FB.out, k]; simp : fitB c0 c1 c2 c3 c4 c5 c6 c7 c8 c9 = false)
        have k' := isDig_no k
        have BL : Hid _ := HR.out.bl
        clear k
        generalize (c5.toNat : Int) = C at *
        rcases k' with k' | ⟨k', k''⟩
        · go_wp2
          go_ret2
          exact ⟨by rw [(rd_no E.out).1, (rd_no E.out).2]; rfl, BL.out⟩
        · go_wp2
          go_ret2
          exact ⟨by rw [(rd_no E.out).1, (rd_no E.out).2]; rfl, BL.out⟩
      · have k' := isDig_of k
        have NX : Hid ((0 < 6 → isDig c0 = true) ∧ (1 < 6 → isDig c1 = true) ∧ (2 < 6 → isDig c2 = true) ∧ (3 < 6 → isDig c3 = true) ∧ (4 < 6 → decide ((c4.toNat : Int) = 45) = true) ∧ (5 < 6 → isDig c5 = true) ∧ (6 < 6 → isDig c6 = true) ∧ (7 < 6 → decide ((c7.toNat : Int) = 45) = true) ∧ (8 < 6 → isDig c8 = true) ∧ (9 < 6 → isDig c9 = true)) := (by
          obtain ⟨p0, p1, p2, p3, p4, p5, p6, p7, p8, p9⟩ := P.out
          exact ⟨fun _ => p0 (by omega), fun _ => p1 (by omega), fun _ => p2 (by omega), fun _ => p3 (by omega), fun _ => p4 (by omega), fun _ => k, fun h => by omega, fun h => by omega, fun h => by omega, fun h => by omega⟩)
        have R : R3 w wr w.heap.size (10 * (10 * (10 * (dig c0) + dig c1) + dig c2) + dig c3) (0) (0) := HR.out
        have ND : Hid ((c5.toNat : Int) - 48 = dig c5) := (rfl : (c5.toNat : Int) - 48 = dig c5)
        clear k HR
        obtain ⟨k0, k1⟩ := k'
        have r1 := R.c1
        have rf := R.fz 1
        have HR : Hid _ := R
        clear R
        generalize (c5.toNat : Int) = C at *
        go_upto_region 15 with fail
        go_region
        go_wp2
        go_roundg 4
        case measure => omega
        case rel =>
          have Q := (HR.out.set1 (C - 48)).drew
          rw [ND.out] at Q
          refine ⟨6, by omega, rfl, rfl, ?_, NX⟩
          rw [← ND.out] at Q
          first | exact Q | (rw [ND.out] at Q; exact Q) | (simp only [ND.out]; rw [ND.out] at Q; exact Q)
    · have xi : ((((⟨#[c0, c1, c2, c3, c4, c5, c6, c7, c8, c9]⟩ : ByteArray)[6]'(by show 6 < 10; omega)).toNat : Nat) : Int) = (c6.toNat : Int) := rfl
      cases k : isDig c6
      · have E : Hid (fitB c0 c1 c2 c3 c4 c5 c6 c7 c8 c9 = false) := (by rw [FB.out, k]; simp : fitB c0 c1 c2 c3 c4 c5 c6 c7 c8 c9 = false)
        have k' := isDig_no k
        have BL : Hid _ := HR.out.bl
        clear k
        generalize (c6.toNat : Int) = C at *
        rcases k' with k' | ⟨k', k''⟩
        · go_wp2
          go_ret2
          exact ⟨by rw [(rd_no E.out).1, (rd_no E.out).2]; rfl, BL.out⟩
        · go_wp2
          go_ret2
          exact ⟨by rw [(rd_no E.out).1, (rd_no E.out).2]; rfl, BL.out⟩
      · have k' := isDig_of k
        have NX : Hid ((0 < 7 → isDig c0 = true) ∧ (1 < 7 → isDig c1 = true) ∧ (2 < 7 → isDig c2 = true) ∧ (3 < 7 → isDig c3 = true) ∧ (4 < 7 → decide ((c4.toNat : Int) = 45) = true) ∧ (5 < 7 → isDig c5 = true) ∧ (6 < 7 → isDig c6 = true) ∧ (7 < 7 → decide ((c7.toNat : Int) = 45) = true) ∧ (8 < 7 → isDig c8 = true) ∧ (9 < 7 → isDig c9 = true)) := (by
          obtain ⟨p0, p1, p2, p3, p4, p5, p6, p7, p8, p9⟩ := P.out
          exact ⟨fun _ => p0 (by omega), fun _ => p1 (by omega), fun _ => p2 (by omega), fun _ => p3 (by omega), fun _ => p4 (by omega), fun _ => p5 (by omega), fun _ => k, fun h => by omega, fun h => by omega, fun h => by omega⟩)
        have R : R3 w wr w.heap.size (10 * (10 * (10 * (dig c0) + dig c1) + dig c2) + dig c3) (dig c5) (0) := HR.out
        have ND : Hid ((c6.toNat : Int) - 48 = dig c6) := (rfl : (c6.toNat : Int) - 48 = dig c6)
        clear k HR
        obtain ⟨k0, k1⟩ := k'
        have vb : -100000000 ≤ dig c5 ∧ dig c5 ≤ 100000000 := by have := dig_bd c5; omega
        obtain ⟨vb0, vb1⟩ := vb
        generalize hX : dig c5 = X at *
        have HX : Hid _ := hX
        clear hX
        have r1 := R.c1
        have rf := R.fz 1
        have HR : Hid _ := R
        clear R
        generalize (c6.toNat : Int) = C at *
        go_upto_region 15 with fail
        go_region
        go_wp2
        go_roundg 3
        case measure => omega
        case rel =>
          have Q := (HR.out.set1 (10 * X + (C - 48))).drew
          refine ⟨7, by omega, rfl, rfl, ?_, NX⟩
          rw [ND.out] at Q ⊢
          rw [← HX.out] at Q ⊢
          exact Q
    · have NX : Hid ((0 < 8 → isDig c0 = true) ∧ (1 < 8 → isDig c1 = true) ∧ (2 < 8 → isDig c2 = true) ∧ (3 < 8 → isDig c3 = true) ∧ (4 < 8 → decide ((c4.toNat : Int) = 45) = true) ∧ (5 < 8 → isDig c5 = true) ∧ (6 < 8 → isDig c6 = true) ∧ (7 < 8 → decide ((c7.toNat : Int) = 45) = true) ∧ (8 < 8 → isDig c8 = true) ∧ (9 < 8 → isDig c9 = true)) := (by
          obtain ⟨p0, p1, p2, p3, p4, p5, p6, p7, p8, p9⟩ := P.out
          exact ⟨fun _ => p0 (by omega), fun _ => p1 (by omega), fun _ => p2 (by omega), fun _ => p3 (by omega), fun _ => p4 (by omega), fun _ => p5 (by omega), fun _ => p6 (by omega), fun _ => decide_eq_true H7.out, fun h => by omega, fun h => by omega⟩)
      go_wp2
      go_roundg 2
      case measure => omega
      case rel => exact ⟨8, by omega, rfl, rfl, HR, NX⟩
    · have xi : ((((⟨#[c0, c1, c2, c3, c4, c5, c6, c7, c8, c9]⟩ : ByteArray)[8]'(by show 8 < 10; omega)).toNat : Nat) : Int) = (c8.toNat : Int) := rfl
      cases k : isDig c8
      · have E : Hid (fitB c0 c1 c2 c3 c4 c5 c6 c7 c8 c9 = false) := (by rw [FB.out, k]; simp : fitB c0 c1 c2 c3 c4 c5 c6 c7 c8 c9 = false)
        have k' := isDig_no k
        have BL : Hid _ := HR.out.bl
        clear k
        generalize (c8.toNat : Int) = C at *
        rcases k' with k' | ⟨k', k''⟩
        · go_wp2
          go_ret2
          exact ⟨by rw [(rd_no E.out).1, (rd_no E.out).2]; rfl, BL.out⟩
        · go_wp2
          go_ret2
          exact ⟨by rw [(rd_no E.out).1, (rd_no E.out).2]; rfl, BL.out⟩
      · have k' := isDig_of k
        have NX : Hid ((0 < 9 → isDig c0 = true) ∧ (1 < 9 → isDig c1 = true) ∧ (2 < 9 → isDig c2 = true) ∧ (3 < 9 → isDig c3 = true) ∧ (4 < 9 → decide ((c4.toNat : Int) = 45) = true) ∧ (5 < 9 → isDig c5 = true) ∧ (6 < 9 → isDig c6 = true) ∧ (7 < 9 → decide ((c7.toNat : Int) = 45) = true) ∧ (8 < 9 → isDig c8 = true) ∧ (9 < 9 → isDig c9 = true)) := (by
          obtain ⟨p0, p1, p2, p3, p4, p5, p6, p7, p8, p9⟩ := P.out
          exact ⟨fun _ => p0 (by omega), fun _ => p1 (by omega), fun _ => p2 (by omega), fun _ => p3 (by omega), fun _ => p4 (by omega), fun _ => p5 (by omega), fun _ => p6 (by omega), fun _ => p7 (by omega), fun _ => k, fun h => by omega⟩)
        have R : R3 w wr w.heap.size (10 * (10 * (10 * (dig c0) + dig c1) + dig c2) + dig c3) (10 * (dig c5) + dig c6) (0) := HR.out
        have ND : Hid ((c8.toNat : Int) - 48 = dig c8) := (rfl : (c8.toNat : Int) - 48 = dig c8)
        clear k HR
        obtain ⟨k0, k1⟩ := k'
        have r2 := R.c2
        have rf := R.fz 2
        have HR : Hid _ := R
        clear R
        generalize (c8.toNat : Int) = C at *
        go_upto_region 15 with fail
        go_region
        go_wp2
        go_roundg 1
        case measure => omega
        case rel =>
          have Q := (HR.out.set2 (C - 48)).drew
          rw [ND.out] at Q
          refine ⟨9, by omega, rfl, rfl, ?_, NX⟩
          rw [← ND.out] at Q
          first | exact Q | (rw [ND.out] at Q; exact Q) | (simp only [ND.out]; rw [ND.out] at Q; exact Q)
    · have xi : ((((⟨#[c0, c1, c2, c3, c4, c5, c6, c7, c8, c9]⟩ : ByteArray)[9]'(by show 9 < 10; omega)).toNat : Nat) : Int) = (c9.toNat : Int) := rfl
      cases k : isDig c9
      · have E : Hid (fitB c0 c1 c2 c3 c4 c5 c6 c7 c8 c9 = false) := (by rw [FB.out, k]; simp : fitB c0 c1 c2 c3 c4 c5 c6 c7 c8 c9 = false)
        have k' := isDig_no k
        have BL : Hid _ := HR.out.bl
        clear k
        generalize (c9.toNat : Int) = C at *
        rcases k' with k' | ⟨k', k''⟩
        · go_wp2
          go_ret2
          exact ⟨by rw [(rd_no E.out).1, (rd_no E.out).2]; rfl, BL.out⟩
        · go_wp2
          go_ret2
          exact ⟨by rw [(rd_no E.out).1, (rd_no E.out).2]; rfl, BL.out⟩
      · have k' := isDig_of k
        have NX : Hid ((0 < 10 → isDig c0 = true) ∧ (1 < 10 → isDig c1 = true) ∧ (2 < 10 → isDig c2 = true) ∧ (3 < 10 → isDig c3 = true) ∧ (4 < 10 → decide ((c4.toNat : Int) = 45) = true) ∧ (5 < 10 → isDig c5 = true) ∧ (6 < 10 → isDig c6 = true) ∧ (7 < 10 → decide ((c7.toNat : Int) = 45) = true) ∧ (8 < 10 → isDig c8 = true) ∧ (9 < 10 → isDig c9 = true)) := (by
          obtain ⟨p0, p1, p2, p3, p4, p5, p6, p7, p8, p9⟩ := P.out
          exact ⟨fun _ => p0 (by omega), fun _ => p1 (by omega), fun _ => p2 (by omega), fun _ => p3 (by omega), fun _ => p4 (by omega), fun _ => p5 (by omega), fun _ => p6 (by omega), fun _ => p7 (by omega), fun _ => p8 (by omega), fun _ => k⟩)
        have R : R3 w wr w.heap.size (10 * (10 * (10 * (dig c0) + dig c1) + dig c2) + dig c3) (10 * (dig c5) + dig c6) (dig c8) := HR.out
        have ND : Hid ((c9.toNat : Int) - 48 = dig c9) := (rfl : (c9.toNat : Int) - 48 = dig c9)
        clear k HR
        obtain ⟨k0, k1⟩ := k'
        have vb : -100000000 ≤ dig c8 ∧ dig c8 ≤ 100000000 := by have := dig_bd c8; omega
        obtain ⟨vb0, vb1⟩ := vb
        generalize hX : dig c8 = X at *
        have HX : Hid _ := hX
        clear hX
        have r2 := R.c2
        have rf := R.fz 2
        have HR : Hid _ := R
        clear R
        generalize (c9.toNat : Int) = C at *
        go_upto_region 15 with fail
        go_region
        go_wp2
        go_roundg 0
        case measure => omega
        case rel =>
          have Q := (HR.out.set2 (10 * X + (C - 48))).drew
          refine ⟨10, by omega, rfl, rfl, ?_, NX⟩
          rw [ND.out] at Q ⊢
          rw [← HX.out] at Q ⊢
          exact Q
    · have E : Hid (fitB c0 c1 c2 c3 c4 c5 c6 c7 c8 c9 = true) := (by
        obtain ⟨p0, p1, p2, p3, p4, p5, p6, p7, p8, p9⟩ := P.out
        rw [FB.out, p0 (by omega), p1 (by omega), p2 (by omega), p3 (by omega), p4 (by omega), p5 (by omega), p6 (by omega), p7 (by omega), p8 (by omega), p9 (by omega)]; rfl)
      have R := HR.out
      rw [fa_end, fb_end, fc_end] at R
      have bd := dg4_bd (a := c0) (b := c1) (c := c2) (d := c3)
      have ES : Hid _ := rd_yes E.out
      generalize dg4 c0 c1 c2 c3 = A at *
      generalize dg2 c5 c6 = B at *
      generalize dg2 c8 c9 = D at *
      have S0 : S3 w w.heap.size A B D wr := R.all
      have S1 : S3 w w.heap.size A B D wr.drew := R.drew.all
      have SB : Hid _ := R.bl
      clear HR R
      go_upto_region 16 with fail
      go_region_held3 (S3 w w.heap.size A B D) (first | with_reducible assumption) (first | (go_at_call 93; refine (rday_any _ _ _ _ bd).mono ?_; rintro e w8 ⟨rfl, rfl⟩))
      all_goals go_wp2
      all_goals go_ret2
      all_goals exact ⟨by rw [ES.out.1, ES.out.2]; rfl, S1.2.2.2⟩

theorem rread_all (c0 c1 c2 c3 c4 c5 c6 c7 c8 c9 : UInt8) (w : World) :
    Calls Tryz.prog 65 #[.string ⟨#[c0, c1, c2, c3, c4, c5, c6, c7, c8, c9]⟩] w fun e w' => e = .returned (.tuple #[.int .i64 (rdN c0 c1 c2 c3 c4 c5 c6 c7 c8 c9), .bool (rdB c0 c1 c2 c3 c4 c5 c6 c7 c8 c9)]) ∧ Below w.heap.size w w' := by
  by_cases k4 : (c4.toNat : Int) = 45
  · by_cases k7 : (c7.toNat : Int) = 45
    · exact rread_10 c0 c1 c2 c3 c4 c5 c6 c7 c8 c9 w k4 k7
    · exact rread_stroke c0 c1 c2 c3 c4 c5 c6 c7 c8 c9 w (.inr k7)
  · exact rread_stroke c0 c1 c2 c3 c4 c5 c6 c7 c8 c9 w (.inl k4)

theorem read_all (c0 c1 c2 c3 c4 c5 c6 c7 c8 c9 : UInt8) (w : World) :
    Calls Tryz.prog 86 #[.string ⟨#[c0, c1, c2, c3, c4, c5, c6, c7, c8, c9]⟩] w fun e w' => e = .returned (.tuple #[.int .i64 (rdN c0 c1 c2 c3 c4 c5 c6 c7 c8 c9), .bool (rdB c0 c1 c2 c3 c4 c5 c6 c7 c8 c9)]) ∧ Below w.heap.size w w' := by
  cases h : fitB c0 c1 c2 c3 c4 c5 c6 c7 c8 c9
  · rw [(rd_no h).1, (rd_no h).2]; exact read_no c0 c1 c2 c3 c4 c5 c6 c7 c8 c9 w h
  · rw [(rd_yes h).1, (rd_yes h).2]; exact read_yes c0 c1 c2 c3 c4 c5 c6 c7 c8 c9 w h

end Go.Proofs.YtiikdmnmfmfpdaaGreatDoor
