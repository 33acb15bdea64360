/- The walks over package num, on: products, signs, comparing. -/
import Derived.Test.YtbeahnehjannpaaDoorHb
namespace Go.Proofs.YtbeahnehjannpaaDoor.Nm
open Go.RowKit
set_option linter.unusedVariables false
set_option linter.unusedSimpArgs false

theorem maskN (a : Nat) (ha : a < 18446744073709551616) : bits .and .u64 (a : Int) 4294967295 = ((a % 4294967296 : Nat) : Int) := by
  have h := bits_and_u64_nat a 4294967295 ha (by omega)
  rw [show a &&& 4294967295 = a % 4294967296 from Nat.and_two_pow_sub_one_eq_mod a 32] at h
  exact h
theorem divN (a : Nat) : (a : Int) / 4294967296 = ((a / 4294967296 : Nat) : Int) := by omega
theorem mulN (a b : Nat) : (a : Int) * (b : Int) = ((a * b : Nat) : Int) := (Int.natCast_mul a b).symm
theorem addN (a b : Nat) : (a : Int) + (b : Int) = ((a + b : Nat) : Int) := (Int.natCast_add a b).symm
theorem wrapN (a : Nat) (ha : a < 18446744073709551616) : IntKind.u64.wrap (a : Int) = (a : Int) := by rw [IntKind.wrap_u64]; omega
theorem wrapM (a : Nat) : IntKind.u64.wrap (a : Int) = ((a % 18446744073709551616 : Nat) : Int) := by rw [IntKind.wrap_u64]; omega

set_option maxHeartbeats 1000000 in
theorem mul64_nat (x y : Nat) (hx : x < 18446744073709551616) (hy : y < 18446744073709551616) (w : World) :
    Calls Tryd.prog 82 #[.int .u64 x, .int .u64 y] w fun e w' => e = .returned (.tuple #[.int .u64 ((x * y / 18446744073709551616 : Nat) : Int), .int .u64 ((x * y % 18446744073709551616 : Nat) : Int)]) ∧ w' = w := by
  obtain ⟨bd, bt, bw, hhi⟩ := Lib.mul64_hi x y hx hy
  have ba := Lib.half_mul_le (a := x / 4294967296) (b := y / 4294967296) (by omega) (by omega)
  have bb := Lib.half_mul_le (a := x / 4294967296) (b := y % 4294967296) (by omega) (by omega)
  have bc := Lib.half_mul_le (a := x % 4294967296) (b := y / 4294967296) (by omega) (by omega)
  have ba' : x / 4294967296 * (y / 4294967296) < 18446744073709551616 := by omega
  have bb' : x / 4294967296 * (y % 4294967296) < 18446744073709551616 := by omega
  have bc' : x % 4294967296 * (y / 4294967296) < 18446744073709551616 := by omega
  have bh1 : x / 4294967296 * (y / 4294967296) + (x / 4294967296 * (y % 4294967296) + x % 4294967296 * (y % 4294967296) / 4294967296) / 4294967296 < 18446744073709551616 := by omega
  have bh : x / 4294967296 * (y / 4294967296) + (x / 4294967296 * (y % 4294967296) + x % 4294967296 * (y % 4294967296) / 4294967296) / 4294967296 + ((x / 4294967296 * (y % 4294967296) + x % 4294967296 * (y % 4294967296) / 4294967296) % 4294967296 + x % 4294967296 * (y / 4294967296)) / 4294967296 < 18446744073709551616 := by omega
  go_enter Tryd.func82, Tryd.ntmps82
  go_wp2
  simp only [maskN x hx, maskN y hy, divN, mulN, addN, wrapN _ bd, wrapN _ bb', wrapN _ bt, maskN _ bt, wrapN _ bc', wrapN _ bw, wrapN _ ba', wrapN _ bh1, wrapN _ bh, wrapM (x * y)]
  rw [hhi]
  go_ret2
  exact ⟨rfl, rfl⟩

theorem mul64_any (x y : Int) (hx : 0 ≤ x) (hx' : x < M64) (hy : 0 ≤ y) (hy' : y < M64) (w : World) :
    Calls Tryd.prog 82 #[.int .u64 x, .int .u64 y] w fun e w' => e = .returned (.tuple #[.int .u64 (x * y / M64), .int .u64 (x * y % M64)]) ∧ w' = w := by
  obtain ⟨X, rfl⟩ := Int.eq_ofNat_of_zero_le hx
  obtain ⟨Y, rfl⟩ := Int.eq_ofNat_of_zero_le hy
  have h := mul64_nat X Y (by unfold M64 at *; omega) (by unfold M64 at *; omega) w
  have e1 : (X : Int) * (Y : Int) / M64 = ((X * Y / 18446744073709551616 : Nat) : Int) := by rw [mulN]; unfold M64; omega
  have e2 : (X : Int) * (Y : Int) % M64 = ((X * Y % 18446744073709551616 : Nat) : Int) := by rw [mulN]; unfold M64; omega
  rw [e1, e2]
  exact h

theorem prod_lo' (a b : Int) : IntKind.u64.wrap a * IntKind.u64.wrap b % M64 = a * b % M64 := by rw [wrapU, wrapU, prod_lo]
theorem prod_nn {a b : Int} (ha : -M63 ≤ a) (ha' : a < M63) (hb : -M63 ≤ b) (hb' : b < M63) (h1 : a < 0) (h2 : b < 0) :
    wrap64 (IntKind.u64.wrap (IntKind.u64.wrap (IntKind.u64.wrap a * IntKind.u64.wrap b / M64 - IntKind.u64.wrap b) - IntKind.u64.wrap a)) = a * b / M64 := by
  have e := prod_hi ha ha' hb hb' rfl
  have d := mul_bd ha ha' hb hb'
  simp only [wrapU, wrap64, h1, h2, if_true, and_self] at e d ⊢
  generalize a % M64 * (b % M64) = P at *
  generalize a * b = Q at *
  unfold M63 M64 at *
  omega
theorem prod_np {a b : Int} (ha : -M63 ≤ a) (ha' : a < M63) (hb : -M63 ≤ b) (hb' : b < M63) (h1 : a < 0) (h2 : 0 ≤ b) :
    wrap64 (IntKind.u64.wrap (IntKind.u64.wrap a * IntKind.u64.wrap b / M64 - IntKind.u64.wrap b)) = a * b / M64 := by
  have e := prod_hi ha ha' hb hb' rfl
  have d := mul_bd ha ha' hb hb'
  have h2' : ¬ b < 0 := by omega
  simp only [wrapU, wrap64, h1, h2', if_true, if_false, and_false] at e d ⊢
  generalize a % M64 * (b % M64) = P at *
  generalize a * b = Q at *
  unfold M63 M64 at *
  omega
theorem prod_pn {a b : Int} (ha : -M63 ≤ a) (ha' : a < M63) (hb : -M63 ≤ b) (hb' : b < M63) (h1 : 0 ≤ a) (h2 : b < 0) :
    wrap64 (IntKind.u64.wrap (IntKind.u64.wrap a * IntKind.u64.wrap b / M64 - IntKind.u64.wrap a)) = a * b / M64 := by
  have e := prod_hi ha ha' hb hb' rfl
  have d := mul_bd ha ha' hb hb'
  have h1' : ¬ a < 0 := by omega
  simp only [wrapU, wrap64, h1', h2, if_true, if_false, false_and] at e d ⊢
  generalize a % M64 * (b % M64) = P at *
  generalize a * b = Q at *
  unfold M63 M64 at *
  omega
theorem prod_pp {a b : Int} (ha : -M63 ≤ a) (ha' : a < M63) (hb : -M63 ≤ b) (hb' : b < M63) (h1 : 0 ≤ a) (h2 : 0 ≤ b) :
    wrap64 (IntKind.u64.wrap a * IntKind.u64.wrap b / M64) = a * b / M64 := by
  have e := prod_hi ha ha' hb hb' rfl
  have d := mul_bd ha ha' hb hb'
  have h1' : ¬ a < 0 := by omega
  have h2' : ¬ b < 0 := by omega
  simp only [wrapU, wrap64, h1', h2', if_false, and_self] at e d ⊢
  generalize a % M64 * (b % M64) = P at *
  generalize a * b = Q at *
  unfold M63 M64 at *
  omega

set_option maxHeartbeats 400000 in
theorem product_any (a b : Int) (w : World) (ha : -M63 ≤ a) (ha' : a < M63) (hb : -M63 ≤ b) (hb' : b < M63) :
    Calls Tryd.prog 78 #[.int .i64 a, .int .i64 b] w fun e w' => e = .returned (.agg #[.int .i64 (a * b / M64), .int .u64 (a * b % M64)]) ∧ Below w.heap.size w w' := by
  by_cases h1 : a < 0 <;> by_cases h2 : b < 0
  all_goals
    go_enter Tryd.func78, Tryd.ntmps78
    go_wp2_with (go_at_call 82; refine (mul64_any _ _ ?_ ?_ ?_ ?_ _).mono ?_; (rw [wrapU]; unfold M64; omega); (rw [wrapU]; unfold M64; omega); (rw [wrapU]; unfold M64; omega); (rw [wrapU]; unfold M64; omega); rintro e w' ⟨rfl, rfl⟩)
  · rw [prod_nn ha ha' hb hb' h1 h2, prod_lo']
    exact bodyPost_ret (v := .agg #[.int .i64 (a * b / M64), .int .u64 (a * b % M64)]) (by simp [results, Tryd.results78, go_sem]) rfl ⟨rfl, (Below.refl _ _).alloc (Nat.le_refl _) _⟩
  · rw [prod_np ha ha' hb hb' h1 h2, prod_lo']
    exact bodyPost_ret (v := .agg #[.int .i64 (a * b / M64), .int .u64 (a * b % M64)]) (by simp [results, Tryd.results78, go_sem]) rfl ⟨rfl, (Below.refl _ _).alloc (Nat.le_refl _) _⟩
  · rw [prod_pn ha ha' hb hb' h1 h2, prod_lo']
    exact bodyPost_ret (v := .agg #[.int .i64 (a * b / M64), .int .u64 (a * b % M64)]) (by simp [results, Tryd.results78, go_sem]) rfl ⟨rfl, (Below.refl _ _).alloc (Nat.le_refl _) _⟩
  · rw [prod_pp ha ha' hb hb' h1 h2, prod_lo']
    exact bodyPost_ret (v := .agg #[.int .i64 (a * b / M64), .int .u64 (a * b % M64)]) (by simp [results, Tryd.results78, go_sem]) rfl ⟨rfl, (Below.refl _ _).alloc (Nat.le_refl _) _⟩

end Go.Proofs.YtbeahnehjannpaaDoor.Nm
