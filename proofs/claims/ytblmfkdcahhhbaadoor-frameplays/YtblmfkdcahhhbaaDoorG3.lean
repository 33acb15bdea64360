/- slices.Grow of nil, slices.Concat of two; the walks over package frame's payloadBytes and told. -/
import Derived.Test.YtblmfkdcahhhbaaDoorG2
import Derived.Lib.AppendZeros
namespace Go.Proofs.YtblmfkdcahhhbaaDoor
open Go.RowKit
set_option linter.unusedVariables false
set_option linter.unusedSimpArgs false

theorem byteInfo' : (Tryd.prog.info? 5).map (fun i => (i.zero, i.size, i.bytes)) = some (some (.int .u8 0), 1, 1) := byteInfo
/-- A slice of none of a new row. -/
theorem own_cut {w : World} {cur : Array Value} {cap : Nat} (hs : cur.size = cap) (hm : cap ≤ maxLen) : Own (w.alloc (.cells cur 5)) w.heap.size (.slice (some ⟨w.heap.size, 0, none⟩) 0 cap) [] :=
  ⟨⟨rfl, .inr ⟨w.heap.size, cap, cur, rfl, Nat.le_refl _, heap_alloc_last w _, Nat.zero_le _, hm, by omega, by simp⟩⟩, Bys.nil⟩
set_option maxHeartbeats 2000000 in
theorem Grow_nil (n : Nat) (w : World) (h : n ≤ 300000) : Calls Tryd.prog 62 #[.slice none 0 0, .int .i64 n] w fun e w' => (∃ v, e = .returned v ∧ Own w' w.heap.size v []) ∧ Below w.heap.size w w' := by
  obtain ⟨i0, hi, hz0, hz1, hz2⟩ := info_parts byteInfo
  have h0 : ¬ (n : Int) < 0 := by omega
  have h1 : (n : Int) ≤ 300000 := by omega
  rcases Nat.eq_zero_or_pos n with rfl | p
  · clear hi hz0 hz1 hz2
    go_enter Tryd.func62, Tryd.ntmps62
    go_wp2
    go_ret
    exact ⟨⟨_, rfl, Own.nil _ _⟩, Below.refl _ _⟩
  · have p' : (0 : Int) < (n : Int) := by omega
    have R := Lib.run_append_nil_zeros (P := Tryd.prog) w 32 3 32 5 i0 (.int .u8 0) .i64 .i64 Tryd.underlying32 Tryd.underlying3 hi hz0 n p (by omega) (by omega) (by rw [hz2]; omega)
    have gl := grownCap_le_maxLen w n 0 5 (by unfold maxLen; omega)
    have gg := grownCap_ge w n 0 5
    have sz : (Builtin.zeroCells (Value.int .u8 0).cells n ++ Builtin.zeroCells (Value.int .u8 0).cells (grownCap w n 0 5 - n)).size = grownCap w n 0 5 := by
      rw [Array.size_append, size_zeroCells, size_zeroCells]
      show n * 1 + (grownCap w n 0 5 - n) * 1 = _
      omega
    have O : Hid _ := own_cut (w := w.drew) sz gl
    have RR : Hid _ := R
    have gl' : (grownCap w n 0 5 : Int) ≤ 9223372036854775807 := by unfold maxLen at gl; omega
    generalize grownCap w n 0 5 = c at *
    generalize Builtin.zeroCells (Value.int .u8 0).cells n ++ Builtin.zeroCells (Value.int .u8 0).cells (c - n) = Z at *
    clear R sz hi hz0 hz1 hz2
    go_enter Tryd.func62, Tryd.ntmps62
    go_wp2_with (at_builtin; refine Lib.wpList_append_run _ rfl (.tmp 20) (.tmp 21) 32 3 rfl _ _ rfl rfl _ _ RR.out ?_)
    go_ret
    exact ⟨⟨_, rfl, O.out⟩, ((Below.refl _ _).drew).alloc (Nat.le_refl _) _⟩

set_option maxRecDepth 100000 in
set_option maxHeartbeats 4000000 in
theorem Concat2_any (g : Nat) (a1 : Option Addr) (n1 c1 : Nat) (b1 : List Int) (a2 : Option Addr) (n2 c2 : Nat) (b2 : List Int) (w : World) (h0 : w.cell? ⟨g, 0, none⟩ = some (.slice a1 n1 c1)) (h1 : w.cell? ⟨g, 1, none⟩ = some (.slice a2 n2 c2)) (y1 : By w a1 n1 c1 b1) (y2 : By w a2 n2 c2 b2) (l1 : n1 ≤ 100000) (l2 : n2 ≤ 100000) :
    Calls Tryd.prog 52 #[.slice (some ⟨g, 0, none⟩) 2 2] w fun e w' => (∃ v, e = .returned v ∧ Own w' w.heap.size v (b1 ++ b2)) ∧ Below w.heap.size w w' := by
  have Y1 : Hid _ := y1
  have Y2 : Hid _ := y2
  have k1 : (n1 : Int) ≤ 100000 := by omega
  have k2 : (n2 : Int) ≤ 100000 := by omega
  have k0 : ¬ ((n1 : Int) < 0) := by omega
  have k3 : ¬ ((n1 : Int) + (n2 : Int) < 0) := by omega
  have gl : g < w.heap.size := World.block_lt_of_cell? _ _ h0
  have E0 : Hid _ := h0
  have E1 : Hid _ := h1
  clear y1 y2
  go_enter Tryd.func52, Tryd.ntmps52
  go_wp2_with fail
  refine wp_loop_rounds 3 ?_
  rw [rounds_succ]
  go_wp2_with fail
  rw [rounds_succ]
  go_wp2_with fail
  rw [rounds_succ]
  go_wp2_with fail
  have GN : Hid _ := Grow_nil (n1 + n2) w (by omega)
  rw [show ((n1 + n2 : Nat) : Int) = (n1 : Int) + (n2 : Int) by omega] at GN
  refine Calls.mono GN.out ?_
  rintro e w1 ⟨⟨v1, rfl, o1⟩, bb1⟩
  have O1 : Hid _ := o1
  have B1 : Hid _ := bb1
  have f0 : w1.cell? ⟨g, 0, none⟩ = some (.slice a1 n1 c1) := (bb1.cell (p := ⟨g, 0, none⟩) gl).trans E0.out
  clear o1 bb1 h0 h1 GN
  go_wp2_with fail
  refine wp_loop_rounds 3 ?_
  rw [rounds_succ]
  go_wp2_with (at_builtin; refine wpList_append_by rfl (.tmp 31) (.tmp 32) rfl w.heap.size _ [] rfl O1.out a1 n1 c1 b1 rfl (Y1.out.below B1.out) (by simp; omega) B1.out.size ?_; intro v2 w2 o2 g2)
  rw [List.nil_append] at o2
  have O2 : Hid _ := o2
  have B2 : Hid (Below w.heap.size w w2 ∧ w.heap.size ≤ w2.heap.size) := grown_new B1.out B1.out.size O1.out g2
  have f1 : w2.cell? ⟨g, 1, none⟩ = some (.slice a2 n2 c2) := (B2.out.1.cell (p := ⟨g, 1, none⟩) gl).trans E1.out
  clear o2 g2 f0 O1
  rw [rounds_succ]
  go_wp2_with (at_builtin; refine wpList_append_by rfl (.tmp 31) (.tmp 32) rfl w.heap.size _ b1 rfl O2.out a2 n2 c2 b2 rfl (Y2.out.below B2.out.1) (by rw [Y1.out.len]; omega) B2.out.2 ?_; intro v3 w3 o3 g3)
  have B3 : Hid (Below w.heap.size w w3 ∧ w.heap.size ≤ w3.heap.size) := grown_new B2.out.1 B2.out.2 O2.out g3
  have O3 : Hid _ := o3
  clear o3 g3 f1 O2
  rw [rounds_succ]
  go_wp2
  go_ret
  exact ⟨⟨_, rfl, O3.out⟩, B3.out.1⟩

end Go.Proofs.YtblmfkdcahhhbaaDoor
