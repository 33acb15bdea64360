/- Plain mathematics for math/bits.Div64: the length of a number in bits, one digit of a long division. No program in it. -/
import Derived.Lib.BitFns
import Derived.Laws.Bits64b
import Derived.Test.YtbeahnehjannpaaDoorHa
namespace Go.Proofs.YtbeahnehjannpaaDoor.Nm
open Go.RowKit Go.Lib
set_option linter.unusedVariables false
set_option linter.unusedSimpArgs false

theorem bitLen_bd : ∀ (k x : Nat), x < 2 ^ k → k ≤ 64 → x ≠ 0 → 2 ^ (bitLen x - 1) ≤ x ∧ x < 2 ^ bitLen x ∧ 1 ≤ bitLen x := by
  intro k
  induction k with
  | zero => intro x h _ h0; simp at h; omega
  | succ k ih =>
    intro x h hk h0
    have hx : x < 2 ^ 64 := Nat.lt_of_lt_of_le h (Nat.pow_le_pow_right (by omega) hk)
    have e := bitLen_half x h0 hx
    by_cases h1 : x = 1
    · subst h1; decide
    · have h2 : x / 2 < 2 ^ k := by rw [Nat.pow_succ] at h; omega
      obtain ⟨a, b, c⟩ := ih (x / 2) h2 (by omega) (by omega)
      rw [e]
      have e2 : 1 + bitLen (x / 2) - 1 = (bitLen (x / 2) - 1) + 1 := by omega
      rw [e2, Nat.pow_succ, Nat.add_comm 1, Nat.pow_succ]
      omega

/-- What the leading noughts are: the shift that brings the upper bit to its place. -/
theorem lz_shift (y : Nat) (h0 : y ≠ 0) (h : y < 18446744073709551616) : bitLen y ≤ 64 ∧ 1 ≤ bitLen y ∧ 9223372036854775808 ≤ y * 2 ^ (64 - bitLen y) ∧ y * 2 ^ (64 - bitLen y) < 18446744073709551616 := by
  have l := bitLen_le y 64 (by omega) h
  obtain ⟨a, b, c⟩ := bitLen_bd 64 y h (by omega) h0
  refine ⟨l, c, ?_, ?_⟩
  · calc 9223372036854775808 = 2 ^ ((bitLen y - 1) + (64 - bitLen y)) := by rw [show (bitLen y - 1) + (64 - bitLen y) = 63 by omega]
      _ = 2 ^ (bitLen y - 1) * 2 ^ (64 - bitLen y) := Nat.pow_add ..
      _ ≤ y * 2 ^ (64 - bitLen y) := Nat.mul_le_mul_right _ a
  · calc y * 2 ^ (64 - bitLen y) < 2 ^ bitLen y * 2 ^ (64 - bitLen y) := Nat.mul_lt_mul_of_pos_right b (Nat.two_pow_pos _)
      _ = 2 ^ (bitLen y + (64 - bitLen y)) := (Nat.pow_add ..).symm
      _ = 18446744073709551616 := by rw [show bitLen y + (64 - bitLen y) = 64 by omega]

def B32 : Int := 4294967296

/-- The loop of one digit: q is not below the digit, and q, r stand for u. -/
structure DInv (y1 y0 u v q r : Int) : Prop where
  sum : q * y1 + r = u
  high : u * B32 + v < (q + 1) * (y1 * B32 + y0)
  r0 : 0 ≤ r
  q0 : 0 ≤ q
  qb : q ≤ B32 + 1

structure DOk (y1 y0 u v : Int) : Prop where
  a : 2147483648 ≤ y1
  b : y1 < B32
  c : 0 ≤ y0
  d : y0 < B32
  e : 0 ≤ u
  f : u < y1 * B32 + y0
  g : 0 ≤ v
  h : v < B32

/-- The digit is right. -/
structure DFin (y1 y0 u v q : Int) : Prop where
  lo : q * (y1 * B32 + y0) ≤ u * B32 + v
  hi : u * B32 + v < (q + 1) * (y1 * B32 + y0)
  q0 : 0 ≤ q
  qb : q < B32

theorem mul_lt_of {a b c : Int} (hc : 0 ≤ c) (h : a * c < b * c) : a < b := by
  rcases Int.lt_or_le a b with k | k
  · exact k
  · have := Int.mul_le_mul_of_nonneg_right k hc; omega

theorem digit_lt {y1 y0 u v q : Int} (k : DOk y1 y0 u v) (lo : q * (y1 * B32 + y0) ≤ u * B32 + v) : q < B32 := by
  have hy : 0 ≤ y1 * B32 + y0 := by have := k.a; have := k.c; unfold B32; omega
  refine mul_lt_of hy ?_
  rw [Int.mul_comm B32]
  have h1 : u + 1 ≤ y1 * B32 + y0 := by have := k.f; omega
  have h2 := Int.mul_le_mul_of_nonneg_right h1 (show (0 : Int) ≤ B32 by unfold B32; omega)
  rw [Int.add_mul] at h2
  have h3 := k.h
  omega

theorem dstart {y1 y0 u v : Int} (k : DOk y1 y0 u v) : DInv y1 y0 u v (u / y1) (u % y1) ∧ u % y1 < y1 ∧ u - u / y1 * y1 = u % y1 := by
  have ya : 0 < y1 := by have := k.a; omega
  have e := Int.mul_ediv_add_emod u y1
  have e' : u / y1 * y1 + u % y1 = u := by rw [Int.mul_comm]; exact e
  have r0 := Int.emod_nonneg u (show y1 ≠ 0 by omega)
  have r1 := Int.emod_lt_of_pos u ya
  have q0 : 0 ≤ u / y1 := Int.ediv_nonneg k.e (by omega)
  refine ⟨⟨e', ?_, r0, q0, ?_⟩, r1, by omega⟩
  · generalize u / y1 = q at *
    generalize u % y1 = r at *
    have h2 : u + 1 ≤ (q + 1) * y1 := by rw [Int.add_mul]; omega
    have h3 := Int.mul_le_mul_of_nonneg_right h2 (show (0 : Int) ≤ B32 by unfold B32; omega)
    have h4 : 0 ≤ (q + 1) * y0 := Int.mul_nonneg (by omega) k.c
    rw [Int.mul_add, ← Int.mul_assoc]
    rw [Int.add_mul] at h3
    have := k.h
    omega
  · generalize u / y1 = q at *
    generalize u % y1 = r at *
    have h1 : q * y1 < (B32 + 2) * y1 := by
      rw [Int.add_mul, Int.mul_comm B32]
      have := k.f; have := k.d; have := k.a
      unfold B32 at *; omega
    have := mul_lt_of (by omega) h1
    omega

theorem sub1_mul (q y : Int) : (q - 1) * y = q * y - y := by rw [Int.sub_mul]; omega
theorem add1_mul (q y : Int) : (q + 1) * y = q * y + y := by rw [Int.add_mul]; omega

theorem q_eq {y1 y0 u v q r : Int} (i : DInv y1 y0 u v q r) : q * (y1 * B32 + y0) = (u - r) * B32 + q * y0 := by
  rw [Int.mul_add, ← Int.mul_assoc]
  have : q * y1 = u - r := by have := i.sum; omega
  rw [this]

/-- It says no: the digit is right. -/
theorem dstop {y1 y0 u v q r : Int} (k : DOk y1 y0 u v) (i : DInv y1 y0 u v q r) (h : q * y0 ≤ B32 * r + v) : DFin y1 y0 u v q := by
  have e := q_eq i
  have lo : q * (y1 * B32 + y0) ≤ u * B32 + v := by
    rw [e, Int.sub_mul, Int.mul_comm r]; omega
  exact ⟨lo, i.high, i.q0, digit_lt k lo⟩

/-- It says yes: one less. -/
theorem dstep {y1 y0 u v q r : Int} (k : DOk y1 y0 u v) (i : DInv y1 y0 u v q r) (h : B32 ≤ q ∨ B32 * r + v < q * y0) : DInv y1 y0 u v (q - 1) (r + y1) ∧ 1 ≤ q := by
  have e := q_eq i
  have hq : u * B32 + v < q * (y1 * B32 + y0) := by
    rcases h with h | h
    · rcases Int.lt_or_le (u * B32 + v) (q * (y1 * B32 + y0)) with p | p
      · exact p
      · have := digit_lt k p; omega
    · rw [e, Int.sub_mul, Int.mul_comm r]; omega
  have q1 : 1 ≤ q := by
    rcases Int.lt_or_le q 1 with p | p
    · have q0 := i.q0
      have z : q = 0 := by omega
      rw [z, Int.zero_mul] at hq
      have := k.e; have := k.g
      unfold B32 at *; omega
    · exact p
  have s := i.sum
  refine ⟨⟨by rw [sub1_mul]; omega, by rw [show q - 1 + 1 = q by omega]; exact hq, by have := i.r0; have := k.a; omega, by omega, by have := i.qb; omega⟩, q1⟩

/-- One less, and r is past its limb: the digit is right. -/
theorem dbreak {y1 y0 u v q r : Int} (k : DOk y1 y0 u v) (i : DInv y1 y0 u v q r) (qb : q ≤ B32) (h : B32 ≤ r) : DFin y1 y0 u v q := by
  refine dstop k i ?_
  have h1 : q * y0 ≤ B32 * (B32 - 1) := by
    have a := Int.mul_le_mul_of_nonneg_right qb k.c
    have b := Int.mul_le_mul_of_nonneg_left (show y0 ≤ B32 - 1 by have := k.d; omega) (show (0 : Int) ≤ B32 by unfold B32; omega)
    omega
  have h2 := Int.mul_le_mul_of_nonneg_left h (show (0 : Int) ≤ B32 by unfold B32; omega)
  have := k.g
  unfold B32 at *
  omega


theorem nat_parts (hi lo y s : Nat) (hs : s ≤ 63) (h1 : hi < y) (hl : lo < 18446744073709551616) (y2 : y * 2 ^ s < 18446744073709551616) :
    hi * 2 ^ s < 18446744073709551616 ∧ lo / 2 ^ (64 - s) < 2 ^ s ∧ ((hi * 2 ^ s) ||| (lo / 2 ^ (64 - s))) = hi * 2 ^ s + lo / 2 ^ (64 - s) ∧
    (hi * 2 ^ s + lo / 2 ^ (64 - s)) * 18446744073709551616 + lo * 2 ^ s % 18446744073709551616 = (hi * 18446744073709551616 + lo) * 2 ^ s ∧
    hi * 2 ^ s + lo / 2 ^ (64 - s) < y * 2 ^ s := by
  have p : 0 < 2 ^ s := Nat.two_pow_pos s
  have e : 2 ^ (64 - s) * 2 ^ s = 18446744073709551616 := by rw [← Nat.pow_add, show 64 - s + s = 64 by omega]
  have a1 : hi * 2 ^ s < y * 2 ^ s := Nat.mul_lt_mul_of_pos_right h1 p
  have a2 : lo / 2 ^ (64 - s) < 2 ^ s := by
    rw [Nat.div_lt_iff_lt_mul (Nat.two_pow_pos _), Nat.mul_comm, e]; exact hl
  have a3 : ((hi * 2 ^ s) ||| (lo / 2 ^ (64 - s))) = hi * 2 ^ s + lo / 2 ^ (64 - s) := by
    rw [Nat.mul_comm hi, Nat.two_pow_add_eq_or_of_lt a2]
  have a4 : (hi * 2 ^ s + lo / 2 ^ (64 - s)) * 18446744073709551616 + lo * 2 ^ s % 18446744073709551616 = (hi * 18446744073709551616 + lo) * 2 ^ s := by
    have b := Nat.div_add_mod lo (2 ^ (64 - s))
    have c : lo % 2 ^ (64 - s) < 2 ^ (64 - s) := Nat.mod_lt _ (Nat.two_pow_pos _)
    have d : lo * 2 ^ s = lo / 2 ^ (64 - s) * 18446744073709551616 + lo % 2 ^ (64 - s) * 2 ^ s := by
      conv => lhs; rw [← b]
      rw [Nat.add_mul, Nat.mul_comm (2 ^ (64 - s)), Nat.mul_assoc, e]
    have f : lo % 2 ^ (64 - s) * 2 ^ s < 18446744073709551616 := by rw [← e]; exact Nat.mul_lt_mul_of_pos_right c p
    have g : (hi * 18446744073709551616 + lo) * 2 ^ s = hi * 2 ^ s * 18446744073709551616 + lo * 2 ^ s := by
      rw [Nat.add_mul, Nat.mul_right_comm]
    rw [g]
    generalize lo / 2 ^ (64 - s) = A at *
    generalize lo % 2 ^ (64 - s) * 2 ^ s = C at *
    generalize lo * 2 ^ s = D at *
    generalize hi * 2 ^ s = E at *
    omega
  refine ⟨by omega, a2, a3, a4, ?_⟩
  have h : hi * 2 ^ s + 2 ^ s ≤ y * 2 ^ s := by
    have := Nat.mul_le_mul_right (2 ^ s) (show hi + 1 ≤ y by omega)
    rw [Nat.add_mul, Nat.one_mul] at this
    exact this
  omega

theorem next_digit {y1 y0 u v q l0 : Int} (k : DOk y1 y0 u v) (f : DFin y1 y0 u v q) (h0 : 0 ≤ l0) (h1 : l0 < B32) (hY : y1 * B32 + y0 < 18446744073709551616) :
    DOk y1 y0 (u * B32 + v - q * (y1 * B32 + y0)) l0 := by
  have a := f.lo
  have b := f.hi
  rw [add1_mul] at b
  exact ⟨k.a, k.b, k.c, k.d, by omega, by omega, h0, h1⟩

theorem quo_of {N y p Y q1 q2 u v l0 y1 y0 : Int} (hp : 0 < p) (hy : 0 < y) (hY : Y = y * p) (e : Y = y1 * B32 + y0) (hN : N * p = (u * B32 + v) * B32 + l0)
    (f1 : DFin y1 y0 u v q1) (f2 : DFin y1 y0 (u * B32 + v - q1 * Y) l0 q2) : q1 * B32 + q2 = N / y := by
  have a := f1.lo
  have b := f2.lo
  have c := f2.hi
  rw [← e] at a b c
  have g : (u * B32 + v - q1 * Y) * B32 = (u * B32 + v) * B32 - q1 * B32 * Y := by rw [Int.sub_mul, Int.mul_right_comm q1]
  rw [g] at b c
  have h1 : (q1 * B32 + q2) * y * p ≤ N * p := by
    rw [Int.mul_assoc, ← hY, Int.add_mul]; omega
  have h2 : N * p < (q1 * B32 + q2 + 1) * y * p := by
    rw [Int.mul_assoc, ← hY, add1_mul, Int.add_mul]; rw [add1_mul] at c; omega
  have h3 : (q1 * B32 + q2) * y ≤ N := by
    rcases Int.lt_or_le N ((q1 * B32 + q2) * y) with z | z
    · have := Int.mul_lt_mul_of_pos_right z hp; omega
    · exact z
  have h4 : N < (q1 * B32 + q2 + 1) * y := mul_lt_of (by omega) h2
  apply Eq.symm
  rw [Int.ediv_eq_iff_of_pos hy]
  rw [add1_mul] at h4
  constructor
  · omega
  · omega

theorem wrapU' (a : Int) : IntKind.u64.wrap a = a % 18446744073709551616 := IntKind.wrap_u64 a
theorem wrapId {a : Int} (h : 0 ≤ a) (k : a < 18446744073709551616) : IntKind.u64.wrap a = a := by rw [wrapU']; omega

/-- What the walk writes of a digit's beginning. -/
theorem dbegin {y1 y0 u v : Int} (k : DOk y1 y0 u v) (hu : u < 18446744073709551616) : ∃ q p r : Int, IntKind.u64.wrap (u.tdiv y1) = q ∧ IntKind.u64.wrap (q * y1) = p ∧ IntKind.u64.wrap (u - p) = r ∧ DInv y1 y0 u v q r ∧ r < 4294967296 := by
  obtain ⟨a, b, c⟩ := dstart k
  have ya := k.a
  have yb := k.b
  have u0 := k.e
  have t : u.tdiv y1 = u / y1 := Int.tdiv_eq_ediv_of_nonneg u0
  have q0 := a.q0
  have r0 := a.r0
  have s := a.sum
  have hq : u / y1 ≤ u := Int.ediv_le_self _ u0
  refine ⟨u / y1, u / y1 * y1, u % y1, ?_, ?_, ?_, a, ?_⟩
  · rw [t]; exact wrapId q0 (by omega)
  · exact wrapId (Int.mul_nonneg q0 (by omega)) (by omega)
  · rw [c]; exact wrapId r0 (by unfold B32 at yb; omega)
  · unfold B32 at yb; omega

theorem lim_prod {q y0 : Int} (h0 : 0 ≤ q) (h1 : q < 4294967296) (h2 : 0 ≤ y0) (h3 : y0 < 4294967296) : IntKind.u64.wrap (q * y0) = q * y0 := by
  have a := Int.mul_le_mul (show q ≤ 4294967295 by omega) (show y0 ≤ 4294967295 by omega) h2 (by omega)
  exact wrapId (Int.mul_nonneg h0 h2) (by omega)

/-- What the walk writes of what is left of a digit. -/
theorem dleft {y1 y0 u v q Y l0 : Int} (e : Y = y1 * B32 + y0) (k : DOk y1 y0 u v) (f : DFin y1 y0 u v q) (h0 : 0 ≤ l0) (h1 : l0 < B32) (hY : Y < 18446744073709551616) :
    IntKind.u64.wrap (IntKind.u64.wrap (IntKind.u64.wrap (u * 4294967296) + v) - IntKind.u64.wrap (q * Y)) = u * B32 + v - q * Y ∧ DOk y1 y0 (u * B32 + v - q * Y) l0 ∧ u * B32 + v - q * Y < 18446744073709551616 := by
  have n := next_digit k f h0 h1 (by omega)
  rw [← e] at n
  have a := n.e
  have b := n.f
  refine ⟨?_, n, by omega⟩
  simp only [wrapU']
  generalize q * Y = Z at *
  unfold B32 at *
  omega

end Go.Proofs.YtbeahnehjannpaaDoor.Nm
