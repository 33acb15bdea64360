/- The walks over package num, on: narrowing, signs, quotients. -/
import Derived.Test.YtbeahnehjannpaaDoorHg
import Derived.Deep.RegionWith
import Derived.Shelf.Spec.BitsCarry
namespace Go.Proofs.YtbeahnehjannpaaDoor.Nm
open Go.RowKit
set_option linter.unusedVariables false
set_option linter.unusedSimpArgs false

theorem bcell {W w1 : World} (hb : Below W.heap.size W w1) : (∀ b o, b < W.heap.size → w1.cell? ⟨b, o, none⟩ = W.cell? ⟨b, o, none⟩) ∧ (∀ b o, b < W.heap.size → w1.frozen? ⟨b, o, none⟩ = W.frozen? ⟨b, o, none⟩) :=
  ⟨fun b o h => hb.cell (p := ⟨b, o, none⟩) h, fun b o h => hb.frozen (p := ⟨b, o, none⟩) h⟩

theorem below_draw {w w' : World} {o : Obj} (hb : Below (w.alloc o).drew.heap.size (w.alloc o).drew w') : Below w.heap.size w w' :=
  ((Below.refl _ _).alloc (Nat.le_refl _) _).drew.trans (hb.mono (by simp))

theorem wrap64_ge (n : Int) : -M63 ≤ wrap64 n := by unfold wrap64 M63; omega
theorem wrap64_lt (n : Int) : wrap64 n < M63 := by unfold wrap64 M63; omega

def borrow (l : Int) : Int := if l = 0 then 0 else 1

theorem narrow_lo {l : Int} (l1 : 0 ≤ l) (l2 : l < M64) : wrap64 l % M64 = l := by unfold wrap64 M64 at *; omega
theorem narrow_yes {h l : Int} (l1 : 0 ≤ l) (l2 : l < M64) (e : wrap64 l / M64 = h) : fit (val h l) = true ∧ wrap64 l = val h l := by
  have : wrap64 l = val h l := by unfold val; unfold wrap64 M64 at *; omega
  exact ⟨this ▸ fit_yes (wrap64_ge l) (wrap64_lt l), this⟩
theorem narrow_no {h l : Int} (l1 : 0 ≤ l) (l2 : l < M64) (e : wrap64 l / M64 ≠ h) : fit (val h l) = false := by
  apply fit_no
  unfold val; unfold wrap64 M64 M63 at *; omega

set_option maxHeartbeats 400000 in
theorem narrow_any (h l : Int) (w : World) (l1 : 0 ≤ l) (l2 : l < M64) :
    Calls Tryd.prog 80 #[.agg #[.int .i64 h, .int .u64 l]] w fun e w' => e = .returned (.tuple #[.int .i64 (clip (val h l)), .bool (fit (val h l))]) ∧ Below w.heap.size w w' := by
  have e1 := narrow_lo l1 l2
  by_cases c : wrap64 l / M64 = h
  · have k : Hid _ := narrow_yes l1 l2 c
    go_enter Tryd.func80, Tryd.ntmps80
    go_wp2
    go_region_with (go_at_call 84; refine (of_any _ _ (wrap64_ge _) (wrap64_lt _)).mono ?_; rintro e w' ⟨rfl, hb⟩; obtain ⟨hc, hf⟩ := bcell hb)
    all_goals go_wp2
    all_goals go_ret2
    all_goals exact ⟨ret2 (by rw [clip_yes k.out.1, k.out.2]) k.out.1.symm, below_draw hb⟩
  · have k : Hid _ := narrow_no l1 l2 c
    have c' : (wrap64 l / M64 == h) = false := beq_eq_false_iff_ne.2 c
    clear c
    go_enter Tryd.func80, Tryd.ntmps80
    go_wp2
    go_region_with (go_at_call 84; refine (of_any _ _ (wrap64_ge _) (wrap64_lt _)).mono ?_; rintro e w' ⟨rfl, hb⟩; obtain ⟨hc, hf⟩ := bcell hb)
    all_goals go_wp2
    all_goals go_ret2
    all_goals exact ⟨ret2 (clip_no k.out).symm k.out.symm, below_draw hb⟩

theorem minus_yes {h l : Int} (h1 : -M63 ≤ h) (h2 : h < M63) (l1 : 0 ≤ l) (l2 : l < M64) (c : ¬ (h = -M63 ∧ l = 0)) :
    wfit (-val h l) = true ∧ wrap64 (wrap64 (-h) - wrap64 (borrow l)) = -val h l / M64 ∧ (-l) % M64 = -val h l % M64 := by
  refine ⟨wfit_yes ?_ ?_, ?_, ?_⟩
  · unfold val M127; unfold M63 M64 at *; omega
  · unfold val M127; unfold M63 M64 at *; omega
  · unfold wrap64 val borrow; unfold M63 M64 at *; split <;> omega
  · unfold val; unfold M64 at *; omega
theorem minus_no {h l : Int} (c : h = -M63 ∧ l = 0) : wfit (-val h l) = false := by
  apply wfit_no; rw [c.1, c.2]; unfold val M127 M63 M64; omega

theorem lo_ge (n : Int) : 0 ≤ n % M64 := by unfold M64; omega
theorem lo_lt (n : Int) : n % M64 < M64 := by unfold M64; omega
theorem prod_bd {a b : Int} (ha : -M63 ≤ a) (ha' : a < M63) (hb : -M63 ≤ b) (hb' : b < M63) : -M63 ≤ a * b / M64 ∧ a * b / M64 < M63 := by
  have d := mul_bd ha ha' hb hb'
  generalize a * b = Q at *
  unfold M63 M64 at *; omega

theorem wfloor_parts {h l c : Int} (h1 : -M63 ≤ h) (h2 : h < M63) (l1 : 0 ≤ l) (l2 : l < M64) (c1 : 1 ≤ c) (c2 : c < M63) :
    0 ≤ h % c ∧ h % c < c ∧ IntKind.u64.wrap (wrap64 (h - wrap64 (h.fdiv c * c))) = h % c ∧ IntKind.u64.wrap c = c ∧ 0 ≤ val (h % c) l / c ∧ val (h % c) l / c < M64 ∧ val (h.fdiv c) (val (h % c) l / c) = val h l / c := by
  have a := Int.emod_nonneg h (show c ≠ 0 by omega)
  have b := Int.emod_lt_of_pos h (show 0 < c by omega)
  have f : h.fdiv c = h / c := Int.fdiv_eq_ediv_of_nonneg h (by omega)
  have e := Int.mul_ediv_add_emod h c
  rw [Int.mul_comm] at e
  have d : val h l = val (h % c) l + (h / c * M64) * c := by
    unfold val
    conv => lhs; rw [← e]
    rw [Int.add_mul, Int.mul_right_comm]
    omega
  refine ⟨a, b, ?_, ?_, ?_, ?_, ?_⟩
  · rw [f, wrapU]
    generalize h / c * c = P at *
    unfold wrap64 M63 M64 at *; omega
  · rw [wrapU]; unfold M63 M64 at *; omega
  · exact Int.ediv_nonneg (by unfold val; unfold M64 at *; omega) (by omega)
  · refine Int.ediv_lt_of_lt_mul (by omega) ?_
    have : h % c + 1 ≤ c := by omega
    have := Int.mul_le_mul_of_nonneg_right this (show (0 : Int) ≤ M64 by unfold M64; omega)
    rw [Int.add_mul] at this
    unfold val
    rw [Int.mul_comm M64]
    omega
  · rw [d, Int.add_mul_ediv_right _ _ (by omega), f]
    unfold val; omega

set_option maxHeartbeats 400000 in
theorem wfloor_any (h l c : Int) (w : World) (h1 : -M63 ≤ h) (h2 : h < M63) (l1 : 0 ≤ l) (l2 : l < M64) (c1 : 1 ≤ c) (c2 : c < M63) :
    Calls Tryd.prog 79 #[.agg #[.int .i64 h, .int .u64 l], .int .i64 c] w fun e w' => e = .returned (.tuple #[.int .i64 (clip (val h l / c)), .bool (fit (val h l / c))]) ∧ Below w.heap.size w w' := by
  have c0 : (c == 0) = false := beq_eq_false_iff_ne.2 (by omega)
  have cm : (c == -1) = false := beq_eq_false_iff_ne.2 (by omega)
  have k := fdiv_bd h1 h2 (show c ≠ 0 by omega) (show c ≠ -1 by omega)
  have kf := fit_yes k.1 k.2
  have kc := clip_yes kf
  have K : Hid _ := k
  clear k
  obtain ⟨r0, r1, e1, e2, e3, e4, e5⟩ := wfloor_parts h1 h2 l1 l2 c1 c2
  have E5 : Hid _ := e5
  clear e5
  go_enter Tryd.func79, Tryd.ntmps79
  go_wp2_with fail
  refine (floor_any _ _ _ h1 h2 c0 cm).mono ?_
  rintro e w1 ⟨rfl, rfl⟩
  rw [kf, kc]
  go_wp2_with fail
  refine (div64_any _ _ _ _ r0 r1 l1 l2 (by unfold M63 at c2; unfold M64; omega)).mono ?_
  rintro e w2 ⟨⟨r, rfl⟩, n, rfl⟩
  go_wp2_with fail
  refine (narrow_any _ _ _ e3 e4).mono ?_
  rintro e w3 ⟨rfl, hb3⟩
  rw [E5.out]
  go_wp2
  go_ret2
  refine ⟨rfl, ?_⟩
  have y := below_drewN ((Below.refl w.heap.size w).alloc (Nat.le_refl _) (Obj.cells #[Value.int IntKind.i64 h, Value.int IntKind.u64 l] 105)) n
  exact y.trans (hb3.mono y.size)

set_option maxHeartbeats 400000 in
theorem wfloor_low (h l c : Int) (w : World) (c1 : c < 1) :
    Calls Tryd.prog 79 #[.agg #[.int .i64 h, .int .u64 l], .int .i64 c] w fun e w' => e = .returned (.tuple #[.int .i64 0, .bool false]) ∧ Below w.heap.size w w' := by
  go_enter Tryd.func79, Tryd.ntmps79
  go_wp2
  go_ret2
  exact ⟨rfl, (Below.refl _ _).alloc (Nat.le_refl _) _⟩

end Go.Proofs.YtbeahnehjannpaaDoor.Nm
