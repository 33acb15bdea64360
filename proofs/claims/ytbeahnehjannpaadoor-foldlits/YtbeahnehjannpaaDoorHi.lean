/- The walks over package num, on: products, narrowed and divided; what the document tells of a few numbers. -/
import Derived.Test.YtbeahnehjannpaaDoorHh
namespace Go.Proofs.YtbeahnehjannpaaDoor.Nm
open Go.RowKit
set_option linter.unusedVariables false
set_option linter.unusedSimpArgs false

set_option maxHeartbeats 400000 in
theorem mul_any (a b : Int) (w : World) (ha : -M63 ≤ a) (ha' : a < M63) (hb : -M63 ≤ b) (hb' : b < M63) :
    Calls Tryd.prog 74 #[.int .i64 a, .int .i64 b] w fun e w' => e = .returned (.tuple #[.int .i64 (clip (a * b)), .bool (fit (a * b))]) ∧ Below w.heap.size w w' := by
  have pv := val_of (a * b)
  have p3 := lo_ge (a * b)
  have p4 := lo_lt (a * b)
  go_enter Tryd.func74, Tryd.ntmps74
  go_wp2_with fail
  refine (product_any _ _ _ ha ha' hb hb').mono ?_
  rintro e w1 ⟨rfl, hb1⟩
  go_wp2_with fail
  refine (narrow_any _ _ _ p3 p4).mono ?_
  rw [pv]
  rintro e w2 ⟨rfl, hb2⟩
  go_wp2
  go_ret2
  exact ⟨rfl, hb1.trans (hb2.mono hb1.size)⟩

set_option maxHeartbeats 400000 in
theorem mulfloor_any (a b c : Int) (w : World) (ha : -M63 ≤ a) (ha' : a < M63) (hb : -M63 ≤ b) (hb' : b < M63) (c1 : 1 ≤ c) (c2 : c < M63) :
    Calls Tryd.prog 73 #[.int .i64 a, .int .i64 b, .int .i64 c] w fun e w' => e = .returned (.tuple #[.int .i64 (clip (a * b / c)), .bool (fit (a * b / c))]) ∧ Below w.heap.size w w' := by
  obtain ⟨p1, p2⟩ := prod_bd ha ha' hb hb'
  have pv := val_of (a * b)
  have p3 := lo_ge (a * b)
  have p4 := lo_lt (a * b)
  go_enter Tryd.func73, Tryd.ntmps73
  go_wp2_with fail
  refine (product_any _ _ _ ha ha' hb hb').mono ?_
  rintro e w1 ⟨rfl, hb1⟩
  go_wp2_with fail
  refine (wfloor_any _ _ _ _ p1 p2 p3 p4 c1 c2).mono ?_
  rw [pv]
  rintro e w2 ⟨rfl, hb2⟩
  go_wp2
  go_ret2
  exact ⟨rfl, hb1.trans (hb2.mono hb1.size)⟩

set_option maxHeartbeats 400000 in
theorem mulfloor_low (a b c : Int) (w : World) (ha : -M63 ≤ a) (ha' : a < M63) (hb : -M63 ≤ b) (hb' : b < M63) (c1 : c < 1) :
    Calls Tryd.prog 73 #[.int .i64 a, .int .i64 b, .int .i64 c] w fun e w' => e = .returned (.tuple #[.int .i64 0, .bool false]) ∧ Below w.heap.size w w' := by
  go_enter Tryd.func73, Tryd.ntmps73
  go_wp2_with fail
  refine (product_any _ _ _ ha ha' hb hb').mono ?_
  rintro e w1 ⟨rfl, hb1⟩
  go_wp2_with fail
  refine (wfloor_low _ _ _ _ c1).mono ?_
  rintro e w2 ⟨rfl, hb2⟩
  go_wp2
  go_ret2
  exact ⟨rfl, hb1.trans (hb2.mono hb1.size)⟩

end Go.Proofs.YtbeahnehjannpaaDoor.Nm
