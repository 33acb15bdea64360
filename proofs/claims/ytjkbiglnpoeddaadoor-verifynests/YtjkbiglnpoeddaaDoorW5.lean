/- The walks over package pack's Reader: what it reads. -/
import Derived.Test.YtjkbiglnpoeddaaDoorW3
import Derived.Laws.BitsAllLaws
namespace Go.Proofs.YtjkbiglnpoeddaaDoor
open Go.RowKit
set_option linter.unusedVariables false
set_option linter.unusedSimpArgs false

/-- Seven bits more, above those that are there. -/
theorem or_above {x y k : Nat} (hx : x < 128 ^ k) (hk : k ≤ 9) (hy : y * 128 ^ k < 18446744073709551616) : bits .or .u64 (x : Int) ((y * 128 ^ k : Nat) : Int) = ((x + y * 128 ^ k : Nat) : Int) := by
  have p : (128 : Nat) ^ k = 2 ^ (7 * k) := by rw [show (128 : Nat) = 2 ^ 7 by decide, ← Nat.pow_mul]
  have q := p128 hk
  rw [u64_or_nat x _ (by omega) hy]
  have h := Nat.shiftLeft_add_eq_or_of_lt (b := x) (i := 7 * k) (by rw [← p]; exact hx) y
  rw [Nat.shiftLeft_eq, ← p] at h
  rw [Nat.or_comm, ← h, Nat.add_comm]

theorem or_step (x y k : Nat) (hx : x < 18446744073709551616) : ∃ z : Nat, bits .or .u64 (x : Int) (IntKind.u64.wrap ((y : Int) % 128 * 2 ^ (7 * k))) = (z : Int) ∧ z < 18446744073709551616 ∧ ((k ≤ 8 ∨ (k ≤ 9 ∧ y ≤ 1)) → x < 128 ^ k → z = x + y % 128 * 128 ^ k) := by
  have p : (128 : Nat) ^ k = 2 ^ (7 * k) := by rw [show (128 : Nat) = 2 ^ 7 by decide, ← Nat.pow_mul]
  have e0 : (y : Int) % 128 * 2 ^ (7 * k) = ((y % 128 * 128 ^ k : Nat) : Int) := by
    rw [p]; push_cast; rfl
  have e : IntKind.u64.wrap ((y : Int) % 128 * 2 ^ (7 * k)) = ((y % 128 * 128 ^ k % 18446744073709551616 : Nat) : Int) := by
    rw [e0, IntKind.wrap_u64]
    generalize y % 128 * 128 ^ k = A
    omega
  have lt : y % 128 * 128 ^ k % 18446744073709551616 < 18446744073709551616 := Nat.mod_lt _ (by decide)
  refine ⟨x ||| (y % 128 * 128 ^ k % 18446744073709551616), by rw [e, u64_or_nat x _ hx lt], ?_, ?_⟩
  · have := Nat.or_lt_two_pow (n := 64) (x := x) (y := y % 128 * 128 ^ k % 18446744073709551616) hx lt
    simpa using this
  · intro hk hb
    have hy : y % 128 * 128 ^ k < 18446744073709551616 := by
      rcases hk with q | ⟨q, r⟩
      · have := p128 (show k + 1 ≤ 9 by omega)
        rw [Nat.pow_succ] at this
        have : y % 128 * 128 ^ k ≤ 127 * 128 ^ k := Nat.mul_le_mul_right _ (by omega)
        omega
      · have := p128 q
        have : y % 128 * 128 ^ k ≤ 1 * 128 ^ k := Nat.mul_le_mul_right _ (by omega)
        omega
    rw [Nat.mod_eq_of_lt hy]
    have h := or_above hb (by omega) hy
    rw [u64_or_nat x _ hx hy] at h
    exact Int.ofNat.inj h

/-- What 'first' returns. -/
def firstV (bs : List Int) : Value := match dec 0 0 bs with
  | none => .tuple #[.int .u64 0, .int .i64 0]
  | some x => .tuple #[.int .u64 x.1, .int .i64 x.2]
theorem firstV_none {bs : List Int} (h : dec 0 0 bs = none) : firstV bs = .tuple #[.int .u64 0, .int .i64 0] := by unfold firstV; rw [h]
theorem firstV_some {bs : List Int} {u n : Nat} (h : dec 0 0 bs = some (u, n)) : firstV bs = .tuple #[.int .u64 u, .int .i64 n] := by unfold firstV; rw [h]
theorem retV {a b : Value} (h : a = b) : Ending.returned a = .returned b := by rw [h]
theorem drop_cons {bs : List Int} {k y : Nat} (h : k < bs.length) (e : (y : Int) = bs.getD k 0) : bs.drop k = (y : Int) :: bs.drop (k + 1) := by
  have : bs.getD k 0 = bs[k] := by simp [List.getD, h]
  rw [e, this, List.drop_eq_getElem_cons h]

end Go.Proofs.YtjkbiglnpoeddaaDoor
