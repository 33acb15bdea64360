/- The walks over package frame: appendLow, Size. -/
import Derived.Test.YtblmfkdcahhhbaaDoorFm
import Derived.Test.YtblmfkdcahhhbaaDoorDw
namespace Go.Proofs.YtblmfkdcahhhbaaDoor
open Go.RowKit
set_option linter.unusedVariables false
set_option linter.unusedSimpArgs false

/-- One byte in a block of its own. -/
theorem by_new (w : World) (x : Int) (t : TypeId) (h0 : 0 ≤ x) (h1 : x < 256) : By (w.alloc (.cells #[.int .u8 x] t)) (some ⟨w.heap.size, 0, none⟩) 1 1 [x] :=
  ⟨rfl, Nat.le_refl _, by decide, fun e => by simp at e, ⟨w.heap.size, 0, fun _ => rfl, fun i hi => by
    obtain rfl : i = 0 := by omega
    simp⟩, Bys.mk h0 h1 Bys.nil⟩

set_option maxHeartbeats 1000000 in
theorem appendLow_any (v : Value) (u n base : Nat) (bs : List Int) (w : World) (h : Own w base v bs) (hB : base ≤ w.heap.size) (hn : bs.length ≤ 300000) (hk : n ≤ 8) (hu : u < 18446744073709551616) :
    Calls Tryd.prog 50 #[v, .int .u64 u, .int .i64 n] w fun e w' => (∃ v', e = .returned v' ∧ Own w' base v' (bs ++ lowB n u)) ∧ Below base w w' := by
  have H : Hid _ := h
  clear h
  go_enter Tryd.func50, Tryd.ntmps50
  go_wp2_with fail
  go_loopg [0, 1, 8] n (fun g vv uv iv wr => ∃ (k x : Nat), k ≤ n ∧ g = n - k ∧ iv = .int .i64 k ∧ uv = .int .u64 x ∧ Hid (x = u / 256 ^ k) ∧ x < 18446744073709551616 ∧ Hid (Own wr base vv (bs ++ lowB k u)) ∧ Hid (Below base w wr) ∧ base ≤ wr.heap.size)
  case atStart => exact ⟨0, u, Nat.zero_le _, rfl, rfl, rfl, by show u = u / 256 ^ 0; simp, hu, by simpa [lowB] using H, Below.refl _ _, hB⟩
  case round =>
    obtain ⟨k, x, hk1, rfl, rfl, rfl, hX, hx, hO, hL, hS⟩ := hrel
    by_cases c : k < n
    · have c' : (k : Int) < (n : Int) := by omega
      have hn8 : (n : Int) ≤ 8 := by omega
      obtain ⟨y, hy⟩ : ∃ y : Nat, y = x % 256 := ⟨_, rfl⟩
      obtain ⟨z, hz⟩ : ∃ z : Nat, z = x / 256 := ⟨_, rfl⟩
      have e1 : (x : Int) % 256 = (y : Int) := by omega
      have e2 : (x : Int) / 256 = (z : Int) := by omega
      have y8 : Hid (y < 256) := by show y < 256; omega
      have z8 : z < 18446744073709551616 := by omega
      have hl := lowB_len k u
      have E2 : Hid (lowB (k + 1) u = lowB k u ++ [(y : Int)]) := by show _ = _; rw [lowB_snoc, ← hX.out, hy]
      have E3 : Hid (z = u / 256 ^ (k + 1)) := by show z = _; rw [hz, hX.out, Nat.pow_succ, Nat.div_div_eq_div_mul]
      have LL : Hid ((bs ++ lowB k u).length ≤ 300008) := by show (bs ++ lowB k u).length ≤ 300008; rw [List.length_append, hl]; omega
      clear hy hz hl
      go_wp2_with (at_builtin; refine wpList_append_by rfl (.tmp 10) (.tmp 13) rfl base _ (bs ++ lowB k u) rfl (hO.out.below ((Below.refl _ _).alloc (Nat.le_refl _) _)) (some ⟨wr.heap.size, 0, none⟩) 1 1 [(y : Int)] rfl (by_new _ _ _ (by omega) (by have := y8.out; omega)) (by have := LL.out; omega) (by simp; omega) ?_; intro v2 w2 o2 g2)
      go_roundg (n - (k + 1))
      case measure => omega
      case rel =>
        have B2 := (hL.out.alloc hS (.cells #[.int .u8 (y : Int)] 5)).grown g2 (by simp; omega) (fun k hk => (hO.out.row.lt k hk).1)
        refine ⟨k + 1, z, by omega, rfl, by go_num, rfl, E3.out, z8, ?_, B2, ?_⟩
        · show Own _ _ _ _
          rw [E2.out, ← List.append_assoc]; exact o2
        · have := g2.size; simp at this; omega
    · obtain rfl : k = n := by omega
      go_wp2
      go_ret
      exact ⟨⟨_, rfl, hO.out⟩, hL.out⟩

theorem ret_int {k : IntKind} {a b : Int} (h : a = b) : Ending.returned (.int k a) = .returned (.int k b) := by rw [h]
set_option maxHeartbeats 1000000 in
theorem Size_any (n : Nat) (w : World) (h : n ≤ 1000) : Calls Tryd.prog 13 #[.int .i64 n] w fun e w' => e = .returned (.int .i64 (fsize n : Nat)) ∧ w = w' := by
  have h0 : ¬ (n : Int) < 0 := by omega
  have h1 : ¬ (1000 : Int) < (n : Int) := by omega
  have h2 : (n : Int) ≤ 1000 := by omega
  obtain ⟨m, hm⟩ : ∃ m, m = fsize n := ⟨_, rfl⟩
  rw [← hm]
  have M : Hid ((n ≤ 44 → (m : Int) = 1) ∧ (44 ≤ n → (m : Int) = 1 + ((n : Int) - 44 + 63 - 1) / 63)) := by
    show _ ∧ _
    rw [hm]; unfold fsize; exact ⟨by omega, by omega⟩
  clear hm
  go_enter Tryd.func13, Tryd.ntmps13
  go_wp2
  all_goals
    go_ret
    refine ⟨ret_int ?_, rfl⟩
    have := M.out
    omega
theorem Size_no (n : Int) (w : World) (h : n < 0 ∨ 1000 < n) : Calls Tryd.prog 13 #[.int .i64 n] w fun e w' => e = .returned (.int .i64 0) ∧ w = w' := by
  by_cases h0 : n < 0
  · clear h
    go_enter Tryd.func13, Tryd.ntmps13
    go_wp2
    go_ret
    exact ⟨rfl, rfl⟩
  · have h1 : 1000 < n := by omega
    clear h
    go_enter Tryd.func13, Tryd.ntmps13
    go_wp2
    go_ret
    exact ⟨rfl, rfl⟩

end Go.Proofs.YtblmfkdcahhhbaaDoor
