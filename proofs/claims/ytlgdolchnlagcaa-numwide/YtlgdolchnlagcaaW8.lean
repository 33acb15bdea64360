/- The walks, on: what the document tells of a few numbers. -/
import Derived.Test.YtlgdolchnlagcaaW7
import Derived.Deep.RegionHeld3
namespace Go.Proofs.Ytlgdolchnlagcaa
open Go.RowKit
set_option linter.unusedVariables false

def B64 : Int := 18446744073709551615

theorem aw1 (w : World) : Calls Try.prog 12 #[.int .i64 (-7), .int .i64 2] w fun e w' => e = .returned (.tuple #[.int .i64 (-4), .bool true]) ∧ w' = w := by
  have h := floor_any (-7) 2 w (by decide) (by decide) rfl rfl
  have e1 : clip ((-7 : Int).fdiv 2) = -4 := by decide
  have e2 : fit ((-7 : Int).fdiv 2) = true := by decide
  rw [e1, e2] at h
  exact h
theorem aw2 (w : World) : Calls Try.prog 13 #[.int .i64 4611686018427387904, .int .i64 4, .int .i64 8] w fun e w' => e = .returned (.tuple #[.int .i64 2305843009213693952, .bool true]) ∧ Below w.heap.size w w' := by
  have h := mulfloor_any 4611686018427387904 4 8 w (by decide) (by decide) (by decide) (by decide) (by decide) (by decide)
  have e1 : clip ((4611686018427387904 : Int) * 4 / 8) = 2305843009213693952 := by decide
  have e2 : fit ((4611686018427387904 : Int) * 4 / 8) = true := by decide
  rw [e1, e2] at h
  exact h
theorem aw3 (w : World) : Calls Try.prog 14 #[.int .i64 (-1)] w fun e w' => e = .returned (.agg #[.int .i64 (-1), .int .u64 B64]) ∧ Below w.heap.size w w' := of_any (-1) w (by decide) (by decide)
theorem aw4 (w : World) : Calls Try.prog 14 #[.int .i64 3] w fun e w' => e = .returned (.agg #[.int .i64 0, .int .u64 3]) ∧ Below w.heap.size w w' := of_any 3 w (by decide) (by decide)
theorem aw5 (w : World) : Calls Try.prog 16 #[.agg #[.int .i64 (-1), .int .u64 B64], .agg #[.int .i64 0, .int .u64 3]] w fun e w' => e = .returned (.tuple #[.agg #[.int .i64 0, .int .u64 2], .bool true]) ∧ Below w.heap.size w w' :=
  plus_any (-1) B64 0 3 w (by decide) (by decide) (by decide) (by decide) (by decide) (by decide) (by decide) (by decide)
theorem aw6 (w : World) : Calls Try.prog 23 #[.agg #[.int .i64 (-1), .int .u64 B64], .int .i64 1099511627776, .int .i64 1099511627776] w fun e w' => e = .returned (.tuple #[.agg #[.int .i64 65535, .int .u64 B64], .bool true]) ∧ Below w.heap.size w w' :=
  plusmul_any (-1) B64 1099511627776 1099511627776 w (by decide) (by decide) (by decide) (by decide) (by decide) (by decide) (by decide) (by decide)
theorem aw7 (w : World) : Calls Try.prog 14 #[.int .i64 5] w fun e w' => e = .returned (.agg #[.int .i64 0, .int .u64 5]) ∧ Below w.heap.size w w' := of_any 5 w (by decide) (by decide)
theorem aw8 (w : World) : Calls Try.prog 24 #[.agg #[.int .i64 0, .int .u64 5]] w fun e w' => e = .returned (.tuple #[.agg #[.int .i64 (-1), .int .u64 18446744073709551611], .bool true]) ∧ Below w.heap.size w w' :=
  minus_any 0 5 w (by decide) (by decide) (by decide) (by decide)
theorem aw9 (w : World) : Calls Try.prog 15 #[.agg #[.int .i64 0, .int .u64 2], .int .i64 2] w fun e w' => e = .returned (.tuple #[.int .i64 1, .bool true]) ∧ Below w.heap.size w w' :=
  wfloor_any 0 2 2 w (by decide) (by decide) (by decide) (by decide) (by decide) (by decide)
theorem aw10 (w : World) : Calls Try.prog 9 #[.int .i64 1, .int .i64 2] w fun e w' => e = .returned (.tuple #[.int .i64 3, .bool true]) ∧ w' = w :=
  add_any 1 2 w (by decide) (by decide) (by decide) (by decide)
theorem aw11 (w : World) : Calls Try.prog 10 #[.int .i64 1, .int .i64 2] w fun e w' => e = .returned (.tuple #[.int .i64 (-1), .bool true]) ∧ w' = w :=
  sub_any 1 2 w (by decide) (by decide) (by decide) (by decide)
theorem aw12 (w : World) : Calls Try.prog 11 #[.int .i64 3, .int .i64 4] w fun e w' => e = .returned (.tuple #[.int .i64 12, .bool true]) ∧ Below w.heap.size w w' :=
  mul_any 3 4 w (by decide) (by decide) (by decide) (by decide)
theorem aw13 (w : World) : Calls Try.prog 14 #[.int .i64 2] w fun e w' => e = .returned (.agg #[.int .i64 0, .int .u64 2]) ∧ Below w.heap.size w w' := of_any 2 w (by decide) (by decide)
theorem aw14 (w : World) : Calls Try.prog 14 #[.int .i64 (-5)] w fun e w' => e = .returned (.agg #[.int .i64 (-1), .int .u64 18446744073709551611]) ∧ Below w.heap.size w w' := of_any (-5) w (by decide) (by decide)
theorem aw15 (w : World) : Calls Try.prog 27 #[.agg #[.int .i64 (-1), .int .u64 B64], .agg #[.int .i64 0, .int .u64 2]] w fun e w' => e = .returned (.int .i64 (-1)) ∧ Below w.heap.size w w' :=
  cmp_any (-1) B64 0 2 w (by decide) (by decide) (by decide) (by decide)

/-- A block holds a number of two limbs. -/
structure Lies (w : World) (b : Nat) (h l : Int) : Prop where
  hi : w.cell? ⟨b, 0, none⟩ = some (.int .i64 h)
  lo : w.cell? ⟨b, 1, none⟩ = some (.int .u64 l)
  lt : b < w.heap.size

theorem Lies.below {w w' : World} {b : Nat} {h l : Int} (k : Lies w b h l) (hb : Below w.heap.size w w') : Lies w' b h l :=
  ⟨by rw [hb.cell (p := ⟨b, 0, none⟩) k.lt]; exact k.hi, by rw [hb.cell (p := ⟨b, 1, none⟩) k.lt]; exact k.lo, Nat.lt_of_lt_of_le k.lt hb.size⟩
theorem Lies.alloc {w : World} {b : Nat} {h l : Int} (k : Lies w b h l) (o : Obj) : Lies (w.alloc o) b h l :=
  k.below ((Below.refl _ _).alloc (Nat.le_refl _) o)
theorem Lies.new (w : World) (h l : Int) : Lies (w.alloc (.cells #[.int .i64 h, .int .u64 l] 28)) w.heap.size h l :=
  ⟨by simp, by simp, by simp⟩

theorem Lies.set {w : World} {b : Nat} {x y : Value} (h l : Int) (hx : w.cell? ⟨b, 0, none⟩ = some x) (hy : w.cell? ⟨b, 1, none⟩ = some y) (lt : b < w.heap.size) :
    Lies ((w.setCell ⟨b, 0, none⟩ (.int .i64 h)).setCell ⟨b, 1, none⟩ (.int .u64 l)) b h l :=
  ⟨(World.cell?_setCell_other _ _ _ _ (by simp)).trans (World.cell?_setCell_same _ _ _ hx),
   World.cell?_setCell_same _ _ _ (u := y) ((World.cell?_setCell_other _ _ _ _ (by simp)).trans hy), by simpa using lt⟩
theorem Lies.drawn {w w' : World} {b : Nat} {h l : Int} (k : Lies w b h l) (hb : Below w.drew.heap.size w.drew w') : Lies w' b h l :=
  k.below ((Below.refl _ _).drew.trans hb)
theorem Lies.other {w : World} {b c : Nat} {h l : Int} {u v : Value} (k : Lies w b h l) (ne : b < c) :
    Lies ((w.setCell ⟨c, 0, none⟩ u).setCell ⟨c, 1, none⟩ v) b h l := by
  have q : Below c w ((w.setCell ⟨c, 0, none⟩ u).setCell ⟨c, 1, none⟩ v) := ((Below.refl c w).setCell (p := ⟨c, 0, none⟩) (Nat.le_refl _) _).setCell (p := ⟨c, 1, none⟩) (Nat.le_refl _) _
  exact ⟨by rw [q.cell (p := ⟨b, 0, none⟩) ne]; exact k.hi, by rw [q.cell (p := ⟨b, 1, none⟩) ne]; exact k.lo, by simpa using k.lt⟩

theorem relA {w3 w4 w5 : World} (hb4 : Below (w3.alloc (Obj.cells #[Value.int IntKind.i64 (-1), Value.int IntKind.u64 B64] 28)).drew.heap.size (w3.alloc (Obj.cells #[Value.int IntKind.i64 (-1), Value.int IntKind.u64 B64] 28)).drew w4) (hb5 : Below w4.heap.size w4 w5) :
    Lies (w5.alloc (Obj.cells #[Value.int IntKind.i64 0, Value.int IntKind.u64 2] 28)) w5.heap.size 0 2 ∧ Lies (w5.alloc (Obj.cells #[Value.int IntKind.i64 0, Value.int IntKind.u64 2] 28)) w3.heap.size (-1) B64 ∧ Below w3.heap.size w3 (w5.alloc (Obj.cells #[Value.int IntKind.i64 0, Value.int IntKind.u64 2] 28)) := by
  have a := Lies.new w3 (-1) B64
  have b : Below (w3.alloc (Obj.cells #[Value.int IntKind.i64 (-1), Value.int IntKind.u64 B64] 28)).heap.size (w3.alloc (Obj.cells #[Value.int IntKind.i64 (-1), Value.int IntKind.u64 B64] 28)) w4 := (Below.refl _ _).drew.trans hb4
  have z : w3.heap.size ≤ w4.heap.size := by have := b.size; simp at this; omega
  refine ⟨Lies.new w5 0 2, ((a.below b).below hb5).alloc _, ?_⟩
  have y := ((Below.refl w3.heap.size w3).alloc (Nat.le_refl _) (Obj.cells #[Value.int IntKind.i64 (-1), Value.int IntKind.u64 B64] 28)).trans (b.mono (by simp))
  exact (y.trans (hb5.mono z)).alloc (by have := hb5.size; omega) _

theorem relB {w3 w4 w5 : World} (hb4 : Below (w3.alloc (Obj.cells #[Value.int IntKind.i64 (-1), Value.int IntKind.u64 B64] 28)).drew.heap.size (w3.alloc (Obj.cells #[Value.int IntKind.i64 (-1), Value.int IntKind.u64 B64] 28)).drew w4)
    (hb5 : Below (w4.alloc (Obj.cells #[Value.int IntKind.i64 0, Value.int IntKind.u64 0] 28)).heap.size (w4.alloc (Obj.cells #[Value.int IntKind.i64 0, Value.int IntKind.u64 0] 28)) w5) :
    Lies ((w5.setCell ⟨w4.heap.size, 0, none⟩ (.int .i64 0)).setCell ⟨w4.heap.size, 1, none⟩ (.int .u64 2)) w4.heap.size 0 2 ∧ Lies ((w5.setCell ⟨w4.heap.size, 0, none⟩ (.int .i64 0)).setCell ⟨w4.heap.size, 1, none⟩ (.int .u64 2)) w3.heap.size (-1) B64 ∧ Below w3.heap.size w3 ((w5.setCell ⟨w4.heap.size, 0, none⟩ (.int .i64 0)).setCell ⟨w4.heap.size, 1, none⟩ (.int .u64 2)) := by
  have a := Lies.new w3 (-1) B64
  have b : Below (w3.alloc (Obj.cells #[Value.int IntKind.i64 (-1), Value.int IntKind.u64 B64] 28)).heap.size (w3.alloc (Obj.cells #[Value.int IntKind.i64 (-1), Value.int IntKind.u64 B64] 28)) w4 := (Below.refl _ _).drew.trans hb4
  have z : w3.heap.size < w4.heap.size := by have := b.size; simp at this; omega
  have c := (Lies.new w4 0 0).below hb5
  refine ⟨Lies.set 0 2 c.hi c.lo c.lt, (((a.below b).alloc _).below hb5).other z, ?_⟩
  have y := ((Below.refl w3.heap.size w3).alloc (Nat.le_refl _) (Obj.cells #[Value.int IntKind.i64 (-1), Value.int IntKind.u64 B64] 28)).trans (b.mono (by simp))
  have y2 := (y.alloc (by omega) (Obj.cells #[Value.int IntKind.i64 0, Value.int IntKind.u64 0] 28)).trans (hb5.mono (by simp; omega))
  exact (y2.setCell (Nat.le_of_lt z) _).setCell (Nat.le_of_lt z) _

theorem relC {w3 w4 w5 : World} (hb4 : Below ((w3.alloc (Obj.cells #[Value.int IntKind.i64 (-1), Value.int IntKind.u64 B64] 28)).alloc (Obj.cells #[Value.int IntKind.i64 0, Value.int IntKind.u64 0] 28)).drew.heap.size ((w3.alloc (Obj.cells #[Value.int IntKind.i64 (-1), Value.int IntKind.u64 B64] 28)).alloc (Obj.cells #[Value.int IntKind.i64 0, Value.int IntKind.u64 0] 28)).drew w4)
    (hb5 : Below w4.heap.size w4 w5) :
    Lies ((w5.setCell ⟨w3.heap.size + 1, 0, none⟩ (.int .i64 0)).setCell ⟨w3.heap.size + 1, 1, none⟩ (.int .u64 2)) (w3.heap.size + 1) 0 2 ∧ Lies ((w5.setCell ⟨w3.heap.size + 1, 0, none⟩ (.int .i64 0)).setCell ⟨w3.heap.size + 1, 1, none⟩ (.int .u64 2)) w3.heap.size (-1) B64 ∧ Below w3.heap.size w3 ((w5.setCell ⟨w3.heap.size + 1, 0, none⟩ (.int .i64 0)).setCell ⟨w3.heap.size + 1, 1, none⟩ (.int .u64 2)) := by
  have a := (Lies.new w3 (-1) B64).alloc (Obj.cells #[Value.int IntKind.i64 0, Value.int IntKind.u64 0] 28)
  have a2 := Lies.new (w3.alloc (Obj.cells #[Value.int IntKind.i64 (-1), Value.int IntKind.u64 B64] 28)) 0 0
  have sz : (w3.alloc (Obj.cells #[Value.int IntKind.i64 (-1), Value.int IntKind.u64 B64] 28)).heap.size = w3.heap.size + 1 := by simp
  rw [sz] at a2
  have b : Below ((w3.alloc (Obj.cells #[Value.int IntKind.i64 (-1), Value.int IntKind.u64 B64] 28)).alloc (Obj.cells #[Value.int IntKind.i64 0, Value.int IntKind.u64 0] 28)).heap.size ((w3.alloc (Obj.cells #[Value.int IntKind.i64 (-1), Value.int IntKind.u64 B64] 28)).alloc (Obj.cells #[Value.int IntKind.i64 0, Value.int IntKind.u64 0] 28)) w4 := (Below.refl _ _).drew.trans hb4
  have z : w3.heap.size + 1 < w4.heap.size := by have := b.size; simp at this; omega
  have c := (a2.below b).below hb5
  refine ⟨Lies.set 0 2 c.hi c.lo c.lt, ((a.below b).below hb5).other (by omega), ?_⟩
  have y := (((Below.refl w3.heap.size w3).alloc (Nat.le_refl _) (Obj.cells #[Value.int IntKind.i64 (-1), Value.int IntKind.u64 B64] 28)).alloc (by simp) (Obj.cells #[Value.int IntKind.i64 0, Value.int IntKind.u64 0] 28)).trans (b.mono (by simp; omega))
  have y2 := y.trans (hb5.mono (by omega))
  exact (y2.setCell (by simp) _).setCell (by simp) _

structure Four (w1 : World) (b5 b6 b8 b10 : Nat) (w' : World) : Prop where
  l5 : Lies w' b5 (-1) 18446744073709551615
  l6 : Lies w' b6 0 2
  l8 : Lies w' b8 65535 18446744073709551615
  l10 : Lies w' b10 (-1) 18446744073709551611
  bl : Below w1.heap.size w1 w'

abbrev FourP (w1 : World) (b5 b6 b8 b10 : Nat) (w' : World) : Prop :=
  w'.cell? ⟨b5, 0, none⟩ = some (.int .i64 (-1)) ∧ w'.cell? ⟨b5, 1, none⟩ = some (.int .u64 18446744073709551615) ∧ w'.cell? ⟨b6, 0, none⟩ = some (.int .i64 0) ∧ w'.cell? ⟨b6, 1, none⟩ = some (.int .u64 2) ∧
  w'.cell? ⟨b8, 0, none⟩ = some (.int .i64 65535) ∧ w'.cell? ⟨b8, 1, none⟩ = some (.int .u64 18446744073709551615) ∧ w'.cell? ⟨b10, 0, none⟩ = some (.int .i64 (-1)) ∧ w'.cell? ⟨b10, 1, none⟩ = some (.int .u64 18446744073709551611) ∧ Four w1 b5 b6 b8 b10 w'

theorem Four.all {w1 w' : World} {b5 b6 b8 b10 : Nat} (f : Four w1 b5 b6 b8 b10 w') : FourP w1 b5 b6 b8 b10 w' :=
  ⟨f.l5.hi, f.l5.lo, f.l6.hi, f.l6.lo, f.l8.hi, f.l8.lo, f.l10.hi, f.l10.lo, f⟩
theorem Four.below {w1 w w' : World} {b5 b6 b8 b10 : Nat} (f : Four w1 b5 b6 b8 b10 w) (hb : Below w.heap.size w w') : Four w1 b5 b6 b8 b10 w' :=
  ⟨f.l5.below hb, f.l6.below hb, f.l8.below hb, f.l10.below hb, f.bl.trans (hb.mono f.bl.size)⟩
theorem Four.drew {w1 w : World} {b5 b6 b8 b10 : Nat} (f : Four w1 b5 b6 b8 b10 w) : Four w1 b5 b6 b8 b10 w.drew := f.below (Below.refl _ _).drew
theorem FourP.keep {w1 w w' : World} {b5 b6 b8 b10 : Nat} (f : FourP w1 b5 b6 b8 b10 w) (hb : Below w.heap.size w w') : FourP w1 b5 b6 b8 b10 w' :=
  (f.2.2.2.2.2.2.2.2.below hb).all

set_option maxHeartbeats 4000000 in
set_option maxRecDepth 100000 in
theorem awake_any (w : World) : Calls Try.prog 8 #[] w fun e w' => e = .returned (.bool true) ∧ Below w.heap.size w w' := by
  go_enter Try.func8, Try.ntmps8
  go_wp2_with fail
  refine (aw1 _).mono ?_
  rintro e w1 ⟨rfl, rfl⟩
  go_wp2_with fail
  refine (aw2 _).mono ?_
  rintro e w2 ⟨rfl, hb2⟩
  go_wp2_with fail
  refine (aw3 _).mono ?_
  rintro e w3 ⟨rfl, hb3⟩
  go_upto_region 4 with fail
  go_cut [6, 7] (fun v6 v7 wx => v7 = .bool true ∧ ∃ b6, v6 = .pointer (some ⟨b6, 0, none⟩) ∧ Lies wx b6 0 2 ∧ Lies wx w3.heap.size (-1) B64 ∧ Below w3.heap.size w3 wx)
  case first =>
    go_region_with (first | (go_at_call 14; refine (aw4 _).mono ?_; rintro e w4 ⟨rfl, hb4⟩; obtain ⟨hc4, hf4⟩ := bcell hb4; have s4 := hb4.size; try simp at s4; have s4' : w3.heap.size < w4.heap.size := (by omega); have s4'' : w3.heap.size < w4.heap.size + 1 := (by omega); try (have s4x := Nat.lt_of_succ_le s4)) | (go_at_call 16; refine (aw5 _).mono ?_; rintro e w5 ⟨rfl, hb5⟩; obtain ⟨hc5, hf5⟩ := bcell hb5; have s5 := hb5.size; try simp at s5; try (have s5x := Nat.lt_of_succ_le s5)))
    all_goals go_wp2
    all_goals go_meet
    all_goals first | exact ⟨rfl, _, rfl, relA hb4 hb5⟩ | exact ⟨rfl, _, rfl, relB hb4 hb5⟩ | exact ⟨rfl, _, rfl, relC hb4 hb5⟩
  case rest =>
    obtain ⟨rfl, b6, rfl, L6, L5, hb⟩ := hcut
    have B : Below w1.heap.size w1 wc := (hb2.trans (hb3.mono hb2.size)).trans (hb.mono (by have := hb2.size; have := hb3.size; omega))
    generalize w3.heap.size = b5 at *
    clear hb2 hb3 hb
    have c1 := L5.hi
    have c2 := L5.lo
    go_wp2_with fail
    refine (aw6 _).mono ?_
    rintro e w6 ⟨rfl, hb6⟩
    clear c1 c2
    have N8 := Lies.new w6 65535 B64
    have N5 := (L5.below hb6).alloc (.cells #[.int .i64 65535, .int .u64 B64] 28)
    have N6 := (L6.below hb6).alloc (.cells #[.int .i64 65535, .int .u64 B64] 28)
    clear L5 L6
    go_wp2_with fail
    refine (aw7 _).mono ?_
    rintro e w7 ⟨rfl, hb7⟩
    go_wp2_with fail
    refine (aw8 _).mono ?_
    rintro e w8 ⟨rfl, hb8⟩
    have O10 := Lies.new w8 (-1) 18446744073709551611
    have O5 := ((N5.below hb7).below hb8).alloc (.cells #[.int .i64 (-1), .int .u64 18446744073709551611] 28)
    have O6 := ((N6.below hb7).below hb8).alloc (.cells #[.int .i64 (-1), .int .u64 18446744073709551611] 28)
    have O8 := ((N8.below hb7).below hb8).alloc (.cells #[.int .i64 (-1), .int .u64 18446744073709551611] 28)
    clear N5 N6 N8
    have c1 := O6.hi
    have c2 := O6.lo
    go_wp2_with fail
    refine (aw9 _).mono ?_
    rintro e w9 ⟨rfl, hb9⟩
    clear c1 c2
    have P5 := O5.below hb9
    have P6 := O6.below hb9
    have P8 := O8.below hb9
    have P10 := O10.below hb9
    clear O5 O6 O8 O10
    go_wp2_with fail
    refine (aw10 _).mono ?_
    rintro e w10 ⟨rfl, rfl⟩
    go_wp2_with fail
    refine (aw11 _).mono ?_
    rintro e w11 ⟨rfl, rfl⟩
    go_wp2_with fail
    refine (aw12 _).mono ?_
    rintro e w12 ⟨rfl, hb12⟩
    have Q5 := P5.below hb12
    have Q6 := P6.below hb12
    have Q8 := P8.below hb12
    have Q10 := P10.below hb12
    clear P5 P6 P8 P10
    have c1 := Q5.hi
    have c2 := Q5.lo
    have c3 := Q6.hi
    have c4 := Q6.lo
    go_wp2_with fail
    clear c1 c2 c3 c4
    have z6 := B.trans (hb6.mono B.size)
    have z6a := z6.alloc z6.size (.cells #[.int .i64 65535, .int .u64 B64] 28)
    have z7 := z6a.trans (hb7.mono z6a.size)
    have z8 := z7.trans (hb8.mono z7.size)
    have z8a := z8.alloc z8.size (.cells #[.int .i64 (-1), .int .u64 18446744073709551611] 28)
    have z9 := z8a.trans (hb9.mono z8a.size)
    have z12 := z9.trans (hb12.mono z9.size)
    have F : Four w1 b5 b6 w6.heap.size w8.heap.size w12 := ⟨Q5, Q6, Q8, Q10, z12⟩
    have F2 := F.drew
    generalize w6.heap.size = b8 at *
    generalize w8.heap.size = b10 at *
    clear z6 z6a z7 z8 z8a z9 z12 Q5 Q6 Q8 Q10 B hb6 hb7 hb8 hb9 hb12
    simp only [List.append_eq, List.cons_append, List.nil_append]
    go_region_held3 (FourP w1 b5 b6 b8 b10) (first | exact F2.all | exact FourP.keep (by assumption) (by assumption)) (first | (go_at_call_of 14 (2 : Int); refine (aw13 _).mono ?_; rintro e w13 ⟨rfl, hb13⟩) | (go_at_call 14; refine (aw14 _).mono ?_; rintro e w14 ⟨rfl, hb14⟩) | (go_at_call 27; refine (aw15 _).mono ?_; rintro e w15 ⟨rfl, hb15⟩))
    go_wp2
    go_ret
    exact ⟨rfl, (show FourP w1 b5 b6 b8 b10 _ by assumption).2.2.2.2.2.2.2.2.bl⟩

end Go.Proofs.Ytlgdolchnlagcaa
