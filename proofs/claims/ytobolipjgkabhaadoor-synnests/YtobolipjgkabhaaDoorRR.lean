/- The walks over package publicanref1, on: a day's text read. -/
import Derived.Test.YtobolipjgkabhaaDoorR2
import Derived.RegionTactic
namespace Go.Proofs.YtobolipjgkabhaaDoor
open Go.RowKit
set_option linter.unusedVariables false
set_option linter.unusedSimpArgs false

/-- Three numbers in memory. -/
structure R3 (w0 w : World) (b : Nat) (x y z : Int) : Prop where
  c0 : w.cell? ⟨b, 0, none⟩ = some (.int .i64 x)
  c1 : w.cell? ⟨b, 1, none⟩ = some (.int .i64 y)
  c2 : w.cell? ⟨b, 2, none⟩ = some (.int .i64 z)
  fz : ∀ o, w.frozen? ⟨b, o, none⟩ = false
  bl : Below w0.heap.size w0 w
  ge : w0.heap.size ≤ b

theorem R3.drewN {w0 w : World} {b : Nat} {x y z : Int} (h : R3 w0 w b x y z) (n : Nat) : R3 w0 (w.drewN n) b x y z := by
  have q := below_drewN w n
  have lt := World.block_lt_of_cell? _ _ h.c0
  exact ⟨by rw [q.cell (p := ⟨b, 0, none⟩) lt]; exact h.c0, by rw [q.cell (p := ⟨b, 1, none⟩) lt]; exact h.c1, by rw [q.cell (p := ⟨b, 2, none⟩) lt]; exact h.c2, fun o => by rw [q.frozen (p := ⟨b, o, none⟩) lt]; exact h.fz o, nextB h.bl q, h.ge⟩
theorem R3.set0 {w0 w : World} {b : Nat} {x y z : Int} (h : R3 w0 w b x y z) (v : Int) : R3 w0 (w.setCell ⟨b, 0, none⟩ (.int .i64 v)) b v y z :=
  ⟨World.cell?_setCell_same _ _ _ h.c0, (World.cell?_setCell_other _ _ _ _ (by simp)).trans h.c1, (World.cell?_setCell_other _ _ _ _ (by simp)).trans h.c2, fun o => by simpa using h.fz o, h.bl.setCell (p := ⟨b, 0, none⟩) h.ge _, h.ge⟩
theorem R3.set1 {w0 w : World} {b : Nat} {x y z : Int} (h : R3 w0 w b x y z) (v : Int) : R3 w0 (w.setCell ⟨b, 1, none⟩ (.int .i64 v)) b x v z :=
  ⟨(World.cell?_setCell_other _ _ _ _ (by simp)).trans h.c0, World.cell?_setCell_same _ _ _ h.c1, (World.cell?_setCell_other _ _ _ _ (by simp)).trans h.c2, fun o => by simpa using h.fz o, h.bl.setCell (p := ⟨b, 1, none⟩) h.ge _, h.ge⟩
theorem R3.set2 {w0 w : World} {b : Nat} {x y z : Int} (h : R3 w0 w b x y z) (v : Int) : R3 w0 (w.setCell ⟨b, 2, none⟩ (.int .i64 v)) b x y v :=
  ⟨(World.cell?_setCell_other _ _ _ _ (by simp)).trans h.c0, (World.cell?_setCell_other _ _ _ _ (by simp)).trans h.c1, World.cell?_setCell_same _ _ _ h.c2, fun o => by simpa using h.fz o, h.bl.setCell (p := ⟨b, 2, none⟩) h.ge _, h.ge⟩
theorem R3.drew {w0 w : World} {b : Nat} {x y z : Int} (h : R3 w0 w b x y z) : R3 w0 w.drew b x y z := h.drewN 1
abbrev S3 (w0 : World) (b : Nat) (x y z : Int) (w : World) : Prop := w.cell? ⟨b, 0, none⟩ = some (.int .i64 x) ∧ w.cell? ⟨b, 1, none⟩ = some (.int .i64 y) ∧ w.cell? ⟨b, 2, none⟩ = some (.int .i64 z) ∧ Below w0.heap.size w0 w
theorem R3.all {w0 w : World} {b : Nat} {x y z : Int} (h : R3 w0 w b x y z) : S3 w0 b x y z w := ⟨h.c0, h.c1, h.c2, h.bl⟩
theorem R3.new (w : World) (t : TypeId) : R3 w (w.alloc (.cells #[.int .i64 0, .int .i64 0, .int .i64 0] t)) w.heap.size 0 0 0 :=
  ⟨by simp, by simp, by simp, fun o => by simp, (Below.refl _ _).alloc (Nat.le_refl _) _, Nat.le_refl _⟩

def fa (c0 c1 c2 c3 c4 c5 c6 c7 c8 c9 : UInt8) : Nat → Int
  | 0 => 0
  | 1 => dig c0
  | 2 => 10 * (dig c0) + dig c1
  | 3 => 10 * (10 * (dig c0) + dig c1) + dig c2
  | 4 => 10 * (10 * (10 * (dig c0) + dig c1) + dig c2) + dig c3
  | 5 => 10 * (10 * (10 * (dig c0) + dig c1) + dig c2) + dig c3
  | 6 => 10 * (10 * (10 * (dig c0) + dig c1) + dig c2) + dig c3
  | 7 => 10 * (10 * (10 * (dig c0) + dig c1) + dig c2) + dig c3
  | 8 => 10 * (10 * (10 * (dig c0) + dig c1) + dig c2) + dig c3
  | 9 => 10 * (10 * (10 * (dig c0) + dig c1) + dig c2) + dig c3
  | _ => 10 * (10 * (10 * (dig c0) + dig c1) + dig c2) + dig c3
def fb (c0 c1 c2 c3 c4 c5 c6 c7 c8 c9 : UInt8) : Nat → Int
  | 0 => 0
  | 1 => 0
  | 2 => 0
  | 3 => 0
  | 4 => 0
  | 5 => 0
  | 6 => dig c5
  | 7 => 10 * (dig c5) + dig c6
  | 8 => 10 * (dig c5) + dig c6
  | 9 => 10 * (dig c5) + dig c6
  | _ => 10 * (dig c5) + dig c6
def fc (c0 c1 c2 c3 c4 c5 c6 c7 c8 c9 : UInt8) : Nat → Int
  | 0 => 0
  | 1 => 0
  | 2 => 0
  | 3 => 0
  | 4 => 0
  | 5 => 0
  | 6 => 0
  | 7 => 0
  | 8 => 0
  | 9 => dig c8
  | _ => 10 * (dig c8) + dig c9

theorem fa_end (c0 c1 c2 c3 c4 c5 c6 c7 c8 c9 : UInt8) : fa c0 c1 c2 c3 c4 c5 c6 c7 c8 c9 10 = dg4 c0 c1 c2 c3 := by show 10 * (10 * (10 * (dig c0) + dig c1) + dig c2) + dig c3 = _; unfold dg4; omega
theorem fb_end (c0 c1 c2 c3 c4 c5 c6 c7 c8 c9 : UInt8) : fb c0 c1 c2 c3 c4 c5 c6 c7 c8 c9 10 = dg2 c5 c6 := by show 10 * (dig c5) + dig c6 = _; unfold dg2; omega
theorem fc_end (c0 c1 c2 c3 c4 c5 c6 c7 c8 c9 : UInt8) : fc c0 c1 c2 c3 c4 c5 c6 c7 c8 c9 10 = dg2 c8 c9 := by show 10 * (dig c8) + dig c9 = _; unfold dg2; omega

theorem dig_bd (c : UInt8) : -48 ≤ dig c ∧ dig c ≤ 207 := by have := c.toNat_lt; unfold dig; omega

def rdN (c0 c1 c2 c3 c4 c5 c6 c7 c8 c9 : UInt8) : Int := if fitB c0 c1 c2 c3 c4 c5 c6 c7 c8 c9 then dayN (dg4 c0 c1 c2 c3) (dg2 c5 c6) (dg2 c8 c9) else 0
def rdB (c0 c1 c2 c3 c4 c5 c6 c7 c8 c9 : UInt8) : Bool := if fitB c0 c1 c2 c3 c4 c5 c6 c7 c8 c9 then dateB (dg4 c0 c1 c2 c3) (dg2 c5 c6) (dg2 c8 c9) else false

theorem rd_no {c0 c1 c2 c3 c4 c5 c6 c7 c8 c9 : UInt8} (h : fitB c0 c1 c2 c3 c4 c5 c6 c7 c8 c9 = false) : rdN c0 c1 c2 c3 c4 c5 c6 c7 c8 c9 = 0 ∧ rdB c0 c1 c2 c3 c4 c5 c6 c7 c8 c9 = false := by unfold rdN rdB; rw [h]; exact ⟨rfl, rfl⟩
theorem rd_yes {c0 c1 c2 c3 c4 c5 c6 c7 c8 c9 : UInt8} (h : fitB c0 c1 c2 c3 c4 c5 c6 c7 c8 c9 = true) : rdN c0 c1 c2 c3 c4 c5 c6 c7 c8 c9 = dayN (dg4 c0 c1 c2 c3) (dg2 c5 c6) (dg2 c8 c9) ∧ rdB c0 c1 c2 c3 c4 c5 c6 c7 c8 c9 = dateB (dg4 c0 c1 c2 c3) (dg2 c5 c6) (dg2 c8 c9) := by unfold rdN rdB; rw [h]; exact ⟨rfl, rfl⟩

theorem read_all (c0 c1 c2 c3 c4 c5 c6 c7 c8 c9 : UInt8) (w : World) :
    Calls Tryd.prog 43 #[.string ⟨#[c0, c1, c2, c3, c4, c5, c6, c7, c8, c9]⟩] w fun e w' => e = .returned (.tuple #[.int .i64 (rdN c0 c1 c2 c3 c4 c5 c6 c7 c8 c9), .bool (rdB c0 c1 c2 c3 c4 c5 c6 c7 c8 c9)]) ∧ Below w.heap.size w w' := by
  cases h : fitB c0 c1 c2 c3 c4 c5 c6 c7 c8 c9
  · rw [(rd_no h).1, (rd_no h).2]; exact read_no c0 c1 c2 c3 c4 c5 c6 c7 c8 c9 w h
  · rw [(rd_yes h).1, (rd_yes h).2]; exact read_yes c0 c1 c2 c3 c4 c5 c6 c7 c8 c9 w h

end Go.Proofs.YtobolipjgkabhaaDoor
