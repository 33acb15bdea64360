/- The walks over package num: what each of its functions returns, for every argument. -/
import Derived.Test.YtbeahnehjannpaaDoorRows
import Derived.Test.YtbeahnehjannpaaDoorHa
import Derived.WalkKit
import Derived.WalkSpells
import Derived.WalkLawsBesides
import Derived.Laws.Bits64b
namespace Go.Proofs.YtbeahnehjannpaaDoor.Nm
open Go.RowKit
set_option linter.unusedVariables false
set_option linter.unusedSimpArgs false

theorem ret2 {a b : Int} {p q : Bool} (h : a = b) (k : p = q) : Ending.returned (.tuple #[.int .i64 a, .bool p]) = .returned (.tuple #[.int .i64 b, .bool q]) := by rw [h, k]

set_option maxHeartbeats 400000 in
theorem turned_any (a b s : Int) (w : World) :
    Calls Tryd.prog 72 #[.int .i64 a, .int .i64 b, .int .i64 s] w fun e w' => e = .returned (.bool (turnedB a b s)) ∧ w' = w := by
  by_cases ha : a < 0 <;> by_cases hb : b < 0 <;> by_cases hs : s < 0
  all_goals
    go_enter Tryd.func72, Tryd.ntmps72
    go_wp2
    go_ret
    refine ⟨?_, rfl⟩
    unfold turnedB
    simp
    try omega

set_option maxHeartbeats 400000 in
theorem add_any (a b : Int) (w : World) (ha : -M63 ≤ a) (ha' : a < M63) (hb : -M63 ≤ b) (hb' : b < M63) :
    Calls Tryd.prog 64 #[.int .i64 a, .int .i64 b] w fun e w' => e = .returned (.tuple #[.int .i64 (clip (a + b)), .bool (fit (a + b))]) ∧ w' = w := by
  go_enter Tryd.func64, Tryd.ntmps64
  go_wp2_with (go_at_call 72; refine (turned_any _ _ _ _).mono ?_; rintro e w' ⟨rfl, rfl⟩)
  · have h := add_no ha ha' hb hb' (by assumption)
    go_ret2
    exact ⟨ret2 (clip_no h).symm h.symm, rfl⟩
  · have h := add_yes ha ha' hb hb' (by assumption)
    go_ret2
    exact ⟨ret2 (by rw [h.2, clip_yes h.1]) h.1.symm, rfl⟩

set_option maxHeartbeats 400000 in
theorem sub_any (a b : Int) (w : World) (ha : -M63 ≤ a) (ha' : a < M63) (hb : -M63 ≤ b) (hb' : b < M63) :
    Calls Tryd.prog 65 #[.int .i64 a, .int .i64 b] w fun e w' => e = .returned (.tuple #[.int .i64 (clip (a - b)), .bool (fit (a - b))]) ∧ w' = w := by
  go_enter Tryd.func65, Tryd.ntmps65
  go_wp2_with (go_at_call 72; refine (turned_any _ _ _ _).mono ?_; rintro e w' ⟨rfl, rfl⟩)
  · have h := sub_no ha ha' hb hb' (by assumption)
    go_ret2
    exact ⟨ret2 (clip_no h).symm h.symm, rfl⟩
  · have h := sub_yes ha ha' hb hb' (by assumption)
    go_ret2
    exact ⟨ret2 (by rw [h.2, clip_yes h.1]) h.1.symm, rfl⟩

theorem wrapU (a : Int) : IntKind.u64.wrap a = a % M64 := IntKind.wrap_u64 a
theorem retW {a b c d : Int} (h : a = c) (k : b = d) : Ending.returned (.agg #[.int .i64 a, .int .u64 b]) = .returned (.agg #[.int .i64 c, .int .u64 d]) := by rw [h, k]

set_option maxHeartbeats 400000 in
theorem of_any (a : Int) (w : World) (ha : -M63 ≤ a) (ha' : a < M63) :
    Calls Tryd.prog 84 #[.int .i64 a] w fun e w' => e = .returned (.agg #[.int .i64 (a / M64), .int .u64 (a % M64)]) ∧ Below w.heap.size w w' := by
  by_cases h : a < 0
  · go_enter Tryd.func84, Tryd.ntmps84
    go_wp2
    refine bodyPost_ret (v := .agg #[.int .i64 (-1), .int .u64 (IntKind.u64.wrap a)]) (by simp [results, Tryd.results84, go_sem]) rfl ⟨retW (of_neg ha h).symm (wrapU a), (Below.refl _ _).alloc (Nat.le_refl _) _⟩
  · go_enter Tryd.func84, Tryd.ntmps84
    go_wp2
    refine bodyPost_ret (v := .agg #[.int .i64 0, .int .u64 (IntKind.u64.wrap a)]) (by simp [results, Tryd.results84, go_sem]) rfl ⟨retW (of_pos ha' (by omega)).symm (wrapU a), (Below.refl _ _).alloc (Nat.le_refl _) _⟩

end Go.Proofs.YtbeahnehjannpaaDoor.Nm
