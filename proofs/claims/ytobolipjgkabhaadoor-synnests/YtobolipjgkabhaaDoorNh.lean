/- The walk over SynNests. -/
import Derived.Test.YtobolipjgkabhaaDoorNg
import Derived.Test.YtobolipjgkabhaaDoorQh
import Derived.Deep.LoopGhost
namespace Go.Proofs.YtobolipjgkabhaaDoor
open Go.RowKit
set_option linter.unusedVariables false
set_option linter.unusedSimpArgs false

theorem i64_and3 (n : Int) : bits .and .i64 n 3 = n % 4 := by
  have h3 : (BitVec.ofInt 64 3).toNat = 2 ^ 2 - 1 := by decide
  have key : (BitVec.ofInt 64 n &&& BitVec.ofInt 64 3).toNat = (n % ((2 ^ 64 : Nat) : Int)).toNat % 2 ^ 2 := by
    rw [BitVec.toNat_and, BitVec.toNat_ofInt, h3, Nat.and_two_pow_sub_one_eq_mod]
  show IntKind.i64.wrap ((BitVec.ofInt 64 n &&& BitVec.ofInt 64 3).toNat : Nat) = n % 4
  rw [key, IntKind.wrap_i64]
  omega
theorem txN_cat (l m : List UInt8) : tx l ++ tx m = tx (l ++ m) := by
  unfold tx
  rfl
theorem repN_len (l : List UInt8) : ∀ n, (repN n l).length = n * l.length
  | 0 => by simp [repN]
  | n + 1 => by
    show (repN n l ++ l).length = _
    rw [List.length_append, repN_len l n, Nat.succ_mul]
theorem txN_sz (l : List UInt8) : (tx l).size = l.length := by simp [tx, ByteArray.size]
/-- What Parse answers of such a text. -/
theorem nest_yes {s : ByteArray} {k : Nat} (h : OkN s k) (hk : k ≤ 39) (hs : s.size ≤ 8192) (w : World) (hT : Tbs w) : Calls Tryd.prog 5 #[.string s] w fun e w' => ∃ (o m : ByteArray) (kd pl : Nat) (n : Int) (sa : Option Addr) (sm sc : Nat), e = .returned (.tuple #[.agg #[.string o, .string m, .int .i64 (kd : Nat), .int .i64 n, .int .i64 (pl : Nat), .slice sa sm sc], .int .i64 0, .int .i64 0]) ∧ Below w.heap.size w w' := by
  obtain ⟨RW, h1, h2, h3⟩ := h
  cases hr : parF (RW.map (wo s)) with
  | inl t =>
    refine (parse_no s w RW _ hs h1 h2 hr hT.kt hT.sg).mono ?_
    intro e w' hp
    obtain ⟨sa, sm, sc, e1, _, b⟩ := PrP.inl hp
    exact ⟨_, _, _, _, _, sa, sm, sc, e1, b⟩
  | inr x =>
    obtain ⟨a, e⟩ := x
    rw [hr] at h3
    have := h3.1
    omega
theorem nest_no {s : ByteArray} {k : Nat} (h : OkN s k) (hk : ¬ k ≤ 39) (hs : s.size ≤ 8192) (w : World) (hT : Tbs w) : Calls Tryd.prog 5 #[.string s] w fun e w' => ∃ a : Nat, e = .returned (.tuple #[.agg #[.string ⟨#[]⟩, .string ⟨#[]⟩, .int .i64 0, .int .i64 0, .int .i64 0, .slice none 0 0], .int .i64 (a : Nat), .int .i64 2]) ∧ Below w.heap.size w w' := by
  obtain ⟨RW, h1, h2, h3⟩ := h
  cases hr : parF (RW.map (wo s)) with
  | inl t =>
    rw [hr] at h3
    exact absurd h3 hk
  | inr x =>
    obtain ⟨a, e⟩ := x
    rw [hr] at h3
    obtain ⟨_, rfl⟩ := h3
    refine (parse_no s w RW _ hs h1 h2 hr hT.kt hT.sg).mono ?_
    intro e w' hp
    obtain ⟨e1, b⟩ := PrP.inr hp
    exact ⟨a, e1, b⟩
set_option maxRecDepth 100000 in
set_option maxHeartbeats 8000000 in
theorem nests_0 (k : Nat) (hk : k ≤ 60) (how : Int) (hj : bits .and .i64 how 3 = 0) (w : World) (hT : Tbs w) : Calls Tryd.prog 3 #[.int .i64 (k : Nat), .int .i64 how] w fun e w' => e = .returned (.bool true) ∧ Below w.heap.size w w' := by
  have KA := hid (awake_any w hT)
  have HT := hid hT
  have OK := hid (all_0 k hk)
  have h0 : ¬ (k : Int) < 0 := by omega
  have h1 : ¬ (60 : Int) < (k : Int) := by omega
  have HK := hid hk
  have kl : (k : Int) ≤ 60 := by omega
  clear hT hk
  go_enter Tryd.func3, Tryd.ntmps3
  go_upto_region 3 with (go_at_call 4; (with_reducible refine Calls.mono KA.out ?_); rintro e w2 ⟨rfl, b2⟩; have B2 := hid b2; clear b2)
  clear KA
  go_upto_region 15 with fail
  clear hj h0 h1
  have E0 := hid (show (⟨#[]⟩ : ByteArray) = tx (repN 0 (opN 0).1) from rfl)
  have F0 := hid (show (⟨#[]⟩ : ByteArray) = tx (repN 0 (opN 0).2) from rfl)
  go_loopg [9, 7, 8] (k) (fun g iv sv tv wr => ∃ (i : Nat) (s t : ByteArray), i ≤ k ∧ g = k - i ∧ iv = .int .i64 (i : Nat) ∧ sv = .string s ∧ tv = .string t ∧ Hid (s = tx (repN i (opN 0).1)) ∧ Hid (t = tx (repN i (opN 0).2)) ∧ wr = w2)
  case atStart => exact ⟨0, _, _, Nat.zero_le _, rfl, rfl, rfl, rfl, E0, F0, rfl⟩
  case round =>
    obtain ⟨i, s, t, hi, rfl, rfl, rfl, rfl, SE, TE, rfl⟩ := hrel
    have zs : s.size ≤ 60 := by
      rw [SE.out, txN_sz, repN_len]
      have h1 := HK.out
      have h2 : (opN 0).1.length = 1 := rfl
      rw [h2]
      omega
    have zt : t.size ≤ 60 := by
      rw [TE.out, txN_sz, repN_len]
      have h1 := HK.out
      have h2 : (opN 0).2.length = 1 := rfl
      rw [h2]
      omega
    by_cases q : i < k
    · have q' : (i : Int) < (k : Int) := by omega
      have S1 := hid (show s ++ ⟨#[40]⟩ = tx (repN (i + 1) (opN 0).1) from by rw [SE.out]; exact txN_cat _ _)
      have T1 := hid (show t ++ ⟨#[41]⟩ = tx (repN (i + 1) (opN 0).2) from by rw [TE.out]; exact txN_cat _ _)
      go_wp2_with fail
      go_roundg (k - (i + 1))
      case measure => omega
      case rel => exact ⟨i + 1, _, _, by omega, rfl, by rw [Int.natCast_add]; rfl, rfl, rfl, S1, T1, rfl⟩
    · have q' : ¬ (i : Int) < (k : Int) := by omega
      obtain rfl : i = k := by omega
      have TX := hid (show (((⟨#[114, 117, 108, 101, 32, 97, 32, 99, 111, 117, 110, 116, 32, 61, 32]⟩ ++ s) ++ ⟨#[49]⟩) ++ t) ++ ⟨#[59]⟩ = tx (txN 0 i) from by
        rw [SE.out, TE.out]
        unfold txN
        rw [← txN_cat, ← txN_cat, ← txN_cat, ← txN_cat]
        rfl)
      have SZ := hid (show (tx (txN 0 i)).size ≤ 8192 from by
        rw [txN_sz]
        unfold txN
        simp only [List.length_append, repN_len, List.length_cons, List.length_nil]
        have h1 := HK.out
        have h2 : (opN 0).1.length = 1 := rfl
        have h3 : (opN 0).2.length = 1 := rfl
        rw [h2, h3]
        omega)
      by_cases y : i ≤ 39
      · have y' : ¬ (39 : Int) < (i : Int) := by omega
        have KP := hid (nest_yes OK.out y SZ.out wr (HT.out.next B2.out))
        rw [← TX.out] at KP
        clear SE TE OK TX SZ
        go_wp2_with (go_at_call 5; (with_reducible refine Calls.mono KP.out ?_); rintro e w5 ⟨o, m, kd, pl, n, sa, sm, sc, rfl, b5⟩; have B5 := hid b5; clear b5)
        go_returns
        exact ⟨rfl, nextB (nextB B2.out B5.out) ((Below.refl _ _).alloc (Nat.le_refl _) _)⟩
      · have y' : (39 : Int) < (i : Int) := by omega
        have KP := hid (nest_no OK.out y SZ.out wr (HT.out.next B2.out))
        rw [← TX.out] at KP
        clear SE TE OK TX SZ
        go_wp2_with (go_at_call 5; (with_reducible refine Calls.mono KP.out ?_); rintro e w5 ⟨a, rfl, b5⟩; have B5 := hid b5; clear b5)
        go_returns
        exact ⟨rfl, nextB (nextB B2.out B5.out) ((Below.refl _ _).alloc (Nat.le_refl _) _)⟩
set_option maxRecDepth 100000 in
set_option maxHeartbeats 8000000 in
theorem nests_1 (k : Nat) (hk : k ≤ 60) (how : Int) (hj : bits .and .i64 how 3 = 1) (w : World) (hT : Tbs w) : Calls Tryd.prog 3 #[.int .i64 (k : Nat), .int .i64 how] w fun e w' => e = .returned (.bool true) ∧ Below w.heap.size w w' := by
  have KA := hid (awake_any w hT)
  have HT := hid hT
  have OK := hid (all_1 k hk)
  have h0 : ¬ (k : Int) < 0 := by omega
  have h1 : ¬ (60 : Int) < (k : Int) := by omega
  have HK := hid hk
  have kl : (k : Int) ≤ 60 := by omega
  clear hT hk
  go_enter Tryd.func3, Tryd.ntmps3
  go_upto_region 3 with (go_at_call 4; (with_reducible refine Calls.mono KA.out ?_); rintro e w2 ⟨rfl, b2⟩; have B2 := hid b2; clear b2)
  clear KA
  go_upto_region 15 with fail
  clear hj h0 h1
  have E0 := hid (show (⟨#[]⟩ : ByteArray) = tx (repN 0 (opN 1).1) from rfl)
  have F0 := hid (show (⟨#[]⟩ : ByteArray) = tx (repN 0 (opN 1).2) from rfl)
  go_loopg [9, 7, 8] (k) (fun g iv sv tv wr => ∃ (i : Nat) (s t : ByteArray), i ≤ k ∧ g = k - i ∧ iv = .int .i64 (i : Nat) ∧ sv = .string s ∧ tv = .string t ∧ Hid (s = tx (repN i (opN 1).1)) ∧ Hid (t = tx (repN i (opN 1).2)) ∧ wr = w2)
  case atStart => exact ⟨0, _, _, Nat.zero_le _, rfl, rfl, rfl, rfl, E0, F0, rfl⟩
  case round =>
    obtain ⟨i, s, t, hi, rfl, rfl, rfl, rfl, SE, TE, rfl⟩ := hrel
    have zs : s.size ≤ 60 := by
      rw [SE.out, txN_sz, repN_len]
      have h1 := HK.out
      have h2 : (opN 1).1.length = 1 := rfl
      rw [h2]
      omega
    have zt : t.size ≤ 0 := by
      rw [TE.out, txN_sz, repN_len]
      have h1 := HK.out
      have h2 : (opN 1).2.length = 0 := rfl
      rw [h2]
      omega
    by_cases q : i < k
    · have q' : (i : Int) < (k : Int) := by omega
      have S1 := hid (show s ++ ⟨#[45]⟩ = tx (repN (i + 1) (opN 1).1) from by rw [SE.out]; exact txN_cat _ _)
      have T1 := hid (show t ++ ⟨#[]⟩ = tx (repN (i + 1) (opN 1).2) from by rw [TE.out]; exact txN_cat _ _)
      go_wp2_with fail
      go_roundg (k - (i + 1))
      case measure => omega
      case rel => exact ⟨i + 1, _, _, by omega, rfl, by rw [Int.natCast_add]; rfl, rfl, rfl, S1, T1, rfl⟩
    · have q' : ¬ (i : Int) < (k : Int) := by omega
      obtain rfl : i = k := by omega
      have TX := hid (show (((⟨#[114, 117, 108, 101, 32, 97, 32, 99, 111, 117, 110, 116, 32, 61, 32]⟩ ++ s) ++ ⟨#[49]⟩) ++ t) ++ ⟨#[59]⟩ = tx (txN 1 i) from by
        rw [SE.out, TE.out]
        unfold txN
        rw [← txN_cat, ← txN_cat, ← txN_cat, ← txN_cat]
        rfl)
      have SZ := hid (show (tx (txN 1 i)).size ≤ 8192 from by
        rw [txN_sz]
        unfold txN
        simp only [List.length_append, repN_len, List.length_cons, List.length_nil]
        have h1 := HK.out
        have h2 : (opN 1).1.length = 1 := rfl
        have h3 : (opN 1).2.length = 0 := rfl
        rw [h2, h3]
        omega)
      by_cases y : i ≤ 39
      · have y' : ¬ (39 : Int) < (i : Int) := by omega
        have KP := hid (nest_yes OK.out y SZ.out wr (HT.out.next B2.out))
        rw [← TX.out] at KP
        clear SE TE OK TX SZ
        go_wp2_with (go_at_call 5; (with_reducible refine Calls.mono KP.out ?_); rintro e w5 ⟨o, m, kd, pl, n, sa, sm, sc, rfl, b5⟩; have B5 := hid b5; clear b5)
        go_returns
        exact ⟨rfl, nextB (nextB B2.out B5.out) ((Below.refl _ _).alloc (Nat.le_refl _) _)⟩
      · have y' : (39 : Int) < (i : Int) := by omega
        have KP := hid (nest_no OK.out y SZ.out wr (HT.out.next B2.out))
        rw [← TX.out] at KP
        clear SE TE OK TX SZ
        go_wp2_with (go_at_call 5; (with_reducible refine Calls.mono KP.out ?_); rintro e w5 ⟨a, rfl, b5⟩; have B5 := hid b5; clear b5)
        go_returns
        exact ⟨rfl, nextB (nextB B2.out B5.out) ((Below.refl _ _).alloc (Nat.le_refl _) _)⟩
set_option maxRecDepth 100000 in
set_option maxHeartbeats 8000000 in
theorem nests_2 (k : Nat) (hk : k ≤ 60) (how : Int) (hj : bits .and .i64 how 3 = 2) (w : World) (hT : Tbs w) : Calls Tryd.prog 3 #[.int .i64 (k : Nat), .int .i64 how] w fun e w' => e = .returned (.bool true) ∧ Below w.heap.size w w' := by
  have KA := hid (awake_any w hT)
  have HT := hid hT
  have OK := hid (all_2 k hk)
  have h0 : ¬ (k : Int) < 0 := by omega
  have h1 : ¬ (60 : Int) < (k : Int) := by omega
  have HK := hid hk
  have kl : (k : Int) ≤ 60 := by omega
  clear hT hk
  go_enter Tryd.func3, Tryd.ntmps3
  go_upto_region 3 with (go_at_call 4; (with_reducible refine Calls.mono KA.out ?_); rintro e w2 ⟨rfl, b2⟩; have B2 := hid b2; clear b2)
  clear KA
  go_upto_region 15 with fail
  clear hj h0 h1
  have E0 := hid (show (⟨#[]⟩ : ByteArray) = tx (repN 0 (opN 2).1) from rfl)
  have F0 := hid (show (⟨#[]⟩ : ByteArray) = tx (repN 0 (opN 2).2) from rfl)
  go_loopg [9, 7, 8] (k) (fun g iv sv tv wr => ∃ (i : Nat) (s t : ByteArray), i ≤ k ∧ g = k - i ∧ iv = .int .i64 (i : Nat) ∧ sv = .string s ∧ tv = .string t ∧ Hid (s = tx (repN i (opN 2).1)) ∧ Hid (t = tx (repN i (opN 2).2)) ∧ wr = w2)
  case atStart => exact ⟨0, _, _, Nat.zero_le _, rfl, rfl, rfl, rfl, E0, F0, rfl⟩
  case round =>
    obtain ⟨i, s, t, hi, rfl, rfl, rfl, rfl, SE, TE, rfl⟩ := hrel
    have zs : s.size ≤ 780 := by
      rw [SE.out, txN_sz, repN_len]
      have h1 := HK.out
      have h2 : (opN 2).1.length = 13 := rfl
      rw [h2]
      omega
    have zt : t.size ≤ 420 := by
      rw [TE.out, txN_sz, repN_len]
      have h1 := HK.out
      have h2 : (opN 2).2.length = 7 := rfl
      rw [h2]
      omega
    by_cases q : i < k
    · have q' : (i : Int) < (k : Int) := by omega
      have S1 := hid (show s ++ ⟨#[105, 102, 32, 116, 114, 117, 101, 32, 116, 104, 101, 110, 32]⟩ = tx (repN (i + 1) (opN 2).1) from by rw [SE.out]; exact txN_cat _ _)
      have T1 := hid (show t ++ ⟨#[32, 101, 108, 115, 101, 32, 49]⟩ = tx (repN (i + 1) (opN 2).2) from by rw [TE.out]; exact txN_cat _ _)
      go_wp2_with fail
      go_roundg (k - (i + 1))
      case measure => omega
      case rel => exact ⟨i + 1, _, _, by omega, rfl, by rw [Int.natCast_add]; rfl, rfl, rfl, S1, T1, rfl⟩
    · have q' : ¬ (i : Int) < (k : Int) := by omega
      obtain rfl : i = k := by omega
      have TX := hid (show (((⟨#[114, 117, 108, 101, 32, 97, 32, 99, 111, 117, 110, 116, 32, 61, 32]⟩ ++ s) ++ ⟨#[49]⟩) ++ t) ++ ⟨#[59]⟩ = tx (txN 2 i) from by
        rw [SE.out, TE.out]
        unfold txN
        rw [← txN_cat, ← txN_cat, ← txN_cat, ← txN_cat]
        rfl)
      have SZ := hid (show (tx (txN 2 i)).size ≤ 8192 from by
        rw [txN_sz]
        unfold txN
        simp only [List.length_append, repN_len, List.length_cons, List.length_nil]
        have h1 := HK.out
        have h2 : (opN 2).1.length = 13 := rfl
        have h3 : (opN 2).2.length = 7 := rfl
        rw [h2, h3]
        omega)
      by_cases y : i ≤ 39
      · have y' : ¬ (39 : Int) < (i : Int) := by omega
        have KP := hid (nest_yes OK.out y SZ.out wr (HT.out.next B2.out))
        rw [← TX.out] at KP
        clear SE TE OK TX SZ
        go_wp2_with (go_at_call 5; (with_reducible refine Calls.mono KP.out ?_); rintro e w5 ⟨o, m, kd, pl, n, sa, sm, sc, rfl, b5⟩; have B5 := hid b5; clear b5)
        go_returns
        exact ⟨rfl, nextB (nextB B2.out B5.out) ((Below.refl _ _).alloc (Nat.le_refl _) _)⟩
      · have y' : (39 : Int) < (i : Int) := by omega
        have KP := hid (nest_no OK.out y SZ.out wr (HT.out.next B2.out))
        rw [← TX.out] at KP
        clear SE TE OK TX SZ
        go_wp2_with (go_at_call 5; (with_reducible refine Calls.mono KP.out ?_); rintro e w5 ⟨a, rfl, b5⟩; have B5 := hid b5; clear b5)
        go_returns
        exact ⟨rfl, nextB (nextB B2.out B5.out) ((Below.refl _ _).alloc (Nat.le_refl _) _)⟩
set_option maxRecDepth 100000 in
set_option maxHeartbeats 8000000 in
theorem nests_3 (k : Nat) (hk : k ≤ 60) (how : Int) (hj : bits .and .i64 how 3 = 3) (w : World) (hT : Tbs w) : Calls Tryd.prog 3 #[.int .i64 (k : Nat), .int .i64 how] w fun e w' => e = .returned (.bool true) ∧ Below w.heap.size w w' := by
  have KA := hid (awake_any w hT)
  have HT := hid hT
  have OK := hid (all_3 k hk)
  have h0 : ¬ (k : Int) < 0 := by omega
  have h1 : ¬ (60 : Int) < (k : Int) := by omega
  have HK := hid hk
  have kl : (k : Int) ≤ 60 := by omega
  clear hT hk
  go_enter Tryd.func3, Tryd.ntmps3
  go_upto_region 3 with (go_at_call 4; (with_reducible refine Calls.mono KA.out ?_); rintro e w2 ⟨rfl, b2⟩; have B2 := hid b2; clear b2)
  clear KA
  go_upto_region 15 with fail
  clear hj h0 h1
  have E0 := hid (show (⟨#[]⟩ : ByteArray) = tx (repN 0 (opN 3).1) from rfl)
  have F0 := hid (show (⟨#[]⟩ : ByteArray) = tx (repN 0 (opN 3).2) from rfl)
  go_loopg [9, 7, 8] (k) (fun g iv sv tv wr => ∃ (i : Nat) (s t : ByteArray), i ≤ k ∧ g = k - i ∧ iv = .int .i64 (i : Nat) ∧ sv = .string s ∧ tv = .string t ∧ Hid (s = tx (repN i (opN 3).1)) ∧ Hid (t = tx (repN i (opN 3).2)) ∧ wr = w2)
  case atStart => exact ⟨0, _, _, Nat.zero_le _, rfl, rfl, rfl, rfl, E0, F0, rfl⟩
  case round =>
    obtain ⟨i, s, t, hi, rfl, rfl, rfl, rfl, SE, TE, rfl⟩ := hrel
    have zs : s.size ≤ 420 := by
      rw [SE.out, txN_sz, repN_len]
      have h1 := HK.out
      have h2 : (opN 3).1.length = 7 := rfl
      rw [h2]
      omega
    have zt : t.size ≤ 60 := by
      rw [TE.out, txN_sz, repN_len]
      have h1 := HK.out
      have h2 : (opN 3).2.length = 1 := rfl
      rw [h2]
      omega
    by_cases q : i < k
    · have q' : (i : Int) < (k : Int) := by omega
      have S1 := hid (show s ++ ⟨#[109, 105, 110, 40, 49, 44, 32]⟩ = tx (repN (i + 1) (opN 3).1) from by rw [SE.out]; exact txN_cat _ _)
      have T1 := hid (show t ++ ⟨#[41]⟩ = tx (repN (i + 1) (opN 3).2) from by rw [TE.out]; exact txN_cat _ _)
      go_wp2_with fail
      go_roundg (k - (i + 1))
      case measure => omega
      case rel => exact ⟨i + 1, _, _, by omega, rfl, by rw [Int.natCast_add]; rfl, rfl, rfl, S1, T1, rfl⟩
    · have q' : ¬ (i : Int) < (k : Int) := by omega
      obtain rfl : i = k := by omega
      have TX := hid (show (((⟨#[114, 117, 108, 101, 32, 97, 32, 99, 111, 117, 110, 116, 32, 61, 32]⟩ ++ s) ++ ⟨#[49]⟩) ++ t) ++ ⟨#[59]⟩ = tx (txN 3 i) from by
        rw [SE.out, TE.out]
        unfold txN
        rw [← txN_cat, ← txN_cat, ← txN_cat, ← txN_cat]
        rfl)
      have SZ := hid (show (tx (txN 3 i)).size ≤ 8192 from by
        rw [txN_sz]
        unfold txN
        simp only [List.length_append, repN_len, List.length_cons, List.length_nil]
        have h1 := HK.out
        have h2 : (opN 3).1.length = 7 := rfl
        have h3 : (opN 3).2.length = 1 := rfl
        rw [h2, h3]
        omega)
      by_cases y : i ≤ 39
      · have y' : ¬ (39 : Int) < (i : Int) := by omega
        have KP := hid (nest_yes OK.out y SZ.out wr (HT.out.next B2.out))
        rw [← TX.out] at KP
        clear SE TE OK TX SZ
        go_wp2_with (go_at_call 5; (with_reducible refine Calls.mono KP.out ?_); rintro e w5 ⟨o, m, kd, pl, n, sa, sm, sc, rfl, b5⟩; have B5 := hid b5; clear b5)
        go_returns
        exact ⟨rfl, nextB (nextB B2.out B5.out) ((Below.refl _ _).alloc (Nat.le_refl _) _)⟩
      · have y' : (39 : Int) < (i : Int) := by omega
        have KP := hid (nest_no OK.out y SZ.out wr (HT.out.next B2.out))
        rw [← TX.out] at KP
        clear SE TE OK TX SZ
        go_wp2_with (go_at_call 5; (with_reducible refine Calls.mono KP.out ?_); rintro e w5 ⟨a, rfl, b5⟩; have B5 := hid b5; clear b5)
        go_returns
        exact ⟨rfl, nextB (nextB B2.out B5.out) ((Below.refl _ _).alloc (Nat.le_refl _) _)⟩
set_option maxRecDepth 100000 in
set_option maxHeartbeats 8000000 in
theorem nests_any (n how : Int) (w : World) (hT : Tbs w) : Calls Tryd.prog 3 #[.int .i64 n, .int .i64 how] w fun e w' => e = .returned (.bool true) ∧ Below w.heap.size w w' := by
  by_cases h0 : n < 0
  · have KA := hid (awake_any w hT)
    clear hT
    go_enter Tryd.func3, Tryd.ntmps3
    go_wp2_with (go_at_call 4; (with_reducible refine Calls.mono KA.out ?_); rintro e w2 ⟨rfl, b2⟩; have B2 := hid b2; clear b2)
    go_returns
    exact ⟨rfl, B2.out⟩
  by_cases h1 : (60 : Int) < n
  · have KA := hid (awake_any w hT)
    clear hT
    go_enter Tryd.func3, Tryd.ntmps3
    go_wp2_with (go_at_call 4; (with_reducible refine Calls.mono KA.out ?_); rintro e w2 ⟨rfl, b2⟩; have B2 := hid b2; clear b2)
    go_returns
    exact ⟨rfl, B2.out⟩
  obtain ⟨k, rfl⟩ := Int.eq_ofNat_of_zero_le (show 0 ≤ n by omega)
  have e := i64_and3 how
  have hc : how % 4 = 0 ∨ how % 4 = 1 ∨ how % 4 = 2 ∨ how % 4 = 3 := by omega
  rcases hc with h | h | h | h <;> rw [h] at e
  · exact nests_0 k (by omega) how e w hT
  · exact nests_1 k (by omega) how e w hT
  · exact nests_2 k (by omega) how e w hT
  · exact nests_3 k (by omega) how e w hT
end Go.Proofs.YtobolipjgkabhaaDoor
