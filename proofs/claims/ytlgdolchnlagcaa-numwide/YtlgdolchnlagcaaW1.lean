/- The walks over package num: what each of its functions returns, for every argument. -/
import Derived.Test.YtlgdolchnlagcaaRows
import Derived.Test.YtlgdolchnlagcaaMath
import Derived.WalkKit
import Derived.WalkSpells
import Derived.WalkLawsBesides
import Derived.Laws.Bits64b
namespace Go.Proofs.Ytlgdolchnlagcaa
open Go.RowKit
set_option linter.unusedVariables false

theorem ret2 {a b : Int} {p q : Bool} (h : a = b) (k : p = q) : Ending.returned (.tuple #[.int .i64 a, .bool p]) = .returned (.tuple #[.int .i64 b, .bool q]) := by rw [h, k]

set_option maxHeartbeats 400000 in
theorem turned_any (a b s : Int) (w : World) :
    Calls Try.prog 29 #[.int .i64 a, .int .i64 b, .int .i64 s] w fun e w' => e = .returned (.bool (turnedB a b s)) ∧ w' = w := by
  by_cases ha : a < 0 <;> by_cases hb : b < 0 <;> by_cases hs : s < 0
  all_goals
    go_enter Try.func29, Try.ntmps29
    go_wp2
    go_ret
    refine ⟨?_, rfl⟩
    unfold turnedB
    simp
    try omega

set_option maxHeartbeats 400000 in
theorem add_any (a b : Int) (w : World) (ha : -M63 ≤ a) (ha' : a < M63) (hb : -M63 ≤ b) (hb' : b < M63) :
    Calls Try.prog 9 #[.int .i64 a, .int .i64 b] w fun e w' => e = .returned (.tuple #[.int .i64 (clip (a + b)), .bool (fit (a + b))]) ∧ w' = w := by
  go_enter Try.func9, Try.ntmps9
  go_wp2_with (go_at_call 29; refine (turned_any _ _ _ _).mono ?_; rintro e w' ⟨rfl, rfl⟩)
  · have h := add_no ha ha' hb hb' (by assumption)
    go_ret2
    exact ⟨ret2 (clip_no h).symm h.symm, rfl⟩
  · have h := add_yes ha ha' hb hb' (by assumption)
    go_ret2
    exact ⟨ret2 (by rw [h.2, clip_yes h.1]) h.1.symm, rfl⟩

set_option maxHeartbeats 400000 in
theorem sub_any (a b : Int) (w : World) (ha : -M63 ≤ a) (ha' : a < M63) (hb : -M63 ≤ b) (hb' : b < M63) :
    Calls Try.prog 10 #[.int .i64 a, .int .i64 b] w fun e w' => e = .returned (.tuple #[.int .i64 (clip (a - b)), .bool (fit (a - b))]) ∧ w' = w := by
  go_enter Try.func10, Try.ntmps10
  go_wp2_with (go_at_call 29; refine (turned_any _ _ _ _).mono ?_; rintro e w' ⟨rfl, rfl⟩)
  · have h := sub_no ha ha' hb hb' (by assumption)
    go_ret2
    exact ⟨ret2 (clip_no h).symm h.symm, rfl⟩
  · have h := sub_yes ha ha' hb hb' (by assumption)
    go_ret2
    exact ⟨ret2 (by rw [h.2, clip_yes h.1]) h.1.symm, rfl⟩

theorem wrapU (a : Int) : IntKind.u64.wrap a = a % M64 := IntKind.wrap_u64 a
theorem retW {a b c d : Int} (h : a = c) (k : b = d) : Ending.returned (.agg #[.int .i64 a, .int .u64 b]) = .returned (.agg #[.int .i64 c, .int .u64 d]) := by rw [h, k]

set_option maxHeartbeats 400000 in
theorem of_any (a : Int) (w : World) (ha : -M63 ≤ a) (ha' : a < M63) :
    Calls Try.prog 14 #[.int .i64 a] w fun e w' => e = .returned (.agg #[.int .i64 (a / M64), .int .u64 (a % M64)]) ∧ Below w.heap.size w w' := by
  by_cases h : a < 0
  · go_enter Try.func14, Try.ntmps14
    go_wp2
    refine bodyPost_ret (v := .agg #[.int .i64 (-1), .int .u64 (IntKind.u64.wrap a)]) (by simp [results, Try.results14, go_sem]) rfl ⟨retW (of_neg ha h).symm (wrapU a), (Below.refl _ _).alloc (Nat.le_refl _) _⟩
  · go_enter Try.func14, Try.ntmps14
    go_wp2
    refine bodyPost_ret (v := .agg #[.int .i64 0, .int .u64 (IntKind.u64.wrap a)]) (by simp [results, Try.results14, go_sem]) rfl ⟨retW (of_pos ha' (by omega)).symm (wrapU a), (Below.refl _ _).alloc (Nat.le_refl _) _⟩

theorem call_add64 (x y : Int) (hx : 0 ≤ x) (hy : 0 ≤ y) (w : World) :
    (callFunc 33 #[.int .u64 x, .int .u64 y, .int .u64 0]).run Try.prog w = .ok (.value (.tuple #[.int .u64 ((x + y) % M64), .int .u64 ((x + y) / M64)])) w := by
  rw [run_callFunc_extern Try.func33 (by kernel_rfl) (by kernel_rfl) (by kernel_rfl) (e := add64Entry) (by kernel_rfl), run_add64 x y 0 hx hy (by omega) (by omega)]
  simp only [Result.andThen, Int.add_zero]
  rfl

set_option maxHeartbeats 400000 in
theorem plus_any (h l g k : Int) (w : World) (h1 : -M63 ≤ h) (h2 : h < M63) (g1 : -M63 ≤ g) (g2 : g < M63) (l1 : 0 ≤ l) (l2 : l < M64) (k1 : 0 ≤ k) (k2 : k < M64) :
    Calls Try.prog 16 #[.agg #[.int .i64 h, .int .u64 l], .agg #[.int .i64 g, .int .u64 k]] w fun e w' => e = .returned (.tuple #[.agg #[.int .i64 (whi (val h l + val g k)), .int .u64 (wlo (val h l + val g k))], .bool (wfit (val h l + val g k))]) ∧ Below w.heap.size w w' := by
  have hc := call_add64 l k l1 k1
  go_enter Try.func16, Try.ntmps16
  go_wp2_with (go_at_call 29; refine (turned_any _ _ _ _).mono ?_; rintro e w' ⟨rfl, rfl⟩)
  · have e := plus_no h1 h2 g1 g2 l1 l2 k1 k2 (by rw [← plus_spell]; assumption)
    refine bodyPost_ret (v := .tuple #[.agg #[.int .i64 0, .int .u64 0], .bool false]) (by simp [results, Try.results16, go_sem]) rfl ⟨?_, ?_⟩
    · rw [whi_no e, wlo_no e, e]
    · exact ((((Below.refl _ _).alloc (Nat.le_refl _) _).alloc (by simp) _).alloc (by simp; omega) _)
  · have e := plus_yes h1 h2 g1 g2 l1 l2 k1 k2 (by rw [← plus_spell]; assumption)
    rw [plus_spell, e.2.1, e.2.2]
    refine bodyPost_ret (v := .tuple #[.agg #[.int .i64 ((val h l + val g k) / M64), .int .u64 ((val h l + val g k) % M64)], .bool true]) (by simp [results, Try.results16, go_sem]) rfl ⟨?_, ?_⟩
    · rw [whi_yes e.1, wlo_yes e.1, e.1]
    · exact ((((Below.refl _ _).alloc (Nat.le_refl _) _).alloc (by simp) _).alloc (by simp; omega) _)

end Go.Proofs.Ytlgdolchnlagcaa
