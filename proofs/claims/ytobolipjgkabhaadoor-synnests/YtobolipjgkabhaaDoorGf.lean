/- SynNests: all texts. The walk over SynNests. -/
import Derived.Test.YtobolipjgkabhaaDoorGe
import Derived.Test.YtobolipjgkabhaaDoorGd
import Derived.Deep.LoopGhost
namespace Go.Proofs.YtobolipjgkabhaaDoor
set_option linter.unusedVariables false
set_option linter.unusedSimpArgs false

theorem all_0 (n : Nat) (h : n ≤ 60) : OkN (tx (txN 0 n)) n := by
  match n, h with
  | 0, _ => exact ok_ck c0_0
  | 1, _ => exact ok_ck c0_1
  | 2, _ => exact ok_ck c0_2
  | 3, _ => exact ok_ck c0_3
  | 4, _ => exact ok_ck c0_4
  | 5, _ => exact ok_ck c0_5
  | 6, _ => exact ok_ck c0_6
  | 7, _ => exact ok_ck c0_7
  | 8, _ => exact ok_ck c0_8
  | 9, _ => exact ok_ck c0_9
  | 10, _ => exact ok_ck c0_10
  | 11, _ => exact ok_ck c0_11
  | 12, _ => exact ok_ck c0_12
  | 13, _ => exact ok_ck c0_13
  | 14, _ => exact ok_ck c0_14
  | 15, _ => exact ok_ck c0_15
  | 16, _ => exact ok_ck c0_16
  | 17, _ => exact ok_ck c0_17
  | 18, _ => exact ok_ck c0_18
  | 19, _ => exact ok_ck c0_19
  | 20, _ => exact ok_ck c0_20
  | 21, _ => exact ok_ck c0_21
  | 22, _ => exact ok_ck c0_22
  | 23, _ => exact ok_ck c0_23
  | 24, _ => exact ok_ck c0_24
  | 25, _ => exact ok_ck c0_25
  | 26, _ => exact ok_ck c0_26
  | 27, _ => exact ok_ck c0_27
  | 28, _ => exact ok_ck c0_28
  | 29, _ => exact ok_ck c0_29
  | 30, _ => exact ok_ck c0_30
  | 31, _ => exact ok_ck c0_31
  | 32, _ => exact ok_ck c0_32
  | 33, _ => exact ok_ck c0_33
  | 34, _ => exact ok_ck c0_34
  | 35, _ => exact ok_ck c0_35
  | 36, _ => exact ok_ck c0_36
  | 37, _ => exact ok_ck c0_37
  | 38, _ => exact ok_ck c0_38
  | 39, _ => exact ok_ck c0_39
  | 40, _ => exact ok_ck c0_40
  | 41, _ => exact ok_ck c0_41
  | 42, _ => exact ok_ck c0_42
  | 43, _ => exact ok_ck c0_43
  | 44, _ => exact ok_ck c0_44
  | 45, _ => exact ok_ck c0_45
  | 46, _ => exact ok_ck c0_46
  | 47, _ => exact ok_ck c0_47
  | 48, _ => exact ok_ck c0_48
  | 49, _ => exact ok_ck c0_49
  | 50, _ => exact ok_ck c0_50
  | 51, _ => exact ok_ck c0_51
  | 52, _ => exact ok_ck c0_52
  | 53, _ => exact ok_ck c0_53
  | 54, _ => exact ok_ck c0_54
  | 55, _ => exact ok_ck c0_55
  | 56, _ => exact ok_ck c0_56
  | 57, _ => exact ok_ck c0_57
  | 58, _ => exact ok_ck c0_58
  | 59, _ => exact ok_ck c0_59
  | 60, _ => exact ok_ck c0_60
  | n + 61, h => omega
theorem all_1 (n : Nat) (h : n ≤ 60) : OkN (tx (txN 1 n)) n := by
  match n, h with
  | 0, _ => exact ok_ck c1_0
  | 1, _ => exact ok_ck c1_1
  | 2, _ => exact ok_ck c1_2
  | 3, _ => exact ok_ck c1_3
  | 4, _ => exact ok_ck c1_4
  | 5, _ => exact ok_ck c1_5
  | 6, _ => exact ok_ck c1_6
  | 7, _ => exact ok_ck c1_7
  | 8, _ => exact ok_ck c1_8
  | 9, _ => exact ok_ck c1_9
  | 10, _ => exact ok_ck c1_10
  | 11, _ => exact ok_ck c1_11
  | 12, _ => exact ok_ck c1_12
  | 13, _ => exact ok_ck c1_13
  | 14, _ => exact ok_ck c1_14
  | 15, _ => exact ok_ck c1_15
  | 16, _ => exact ok_ck c1_16
  | 17, _ => exact ok_ck c1_17
  | 18, _ => exact ok_ck c1_18
  | 19, _ => exact ok_ck c1_19
  | 20, _ => exact ok_ck c1_20
  | 21, _ => exact ok_ck c1_21
  | 22, _ => exact ok_ck c1_22
  | 23, _ => exact ok_ck c1_23
  | 24, _ => exact ok_ck c1_24
  | 25, _ => exact ok_ck c1_25
  | 26, _ => exact ok_ck c1_26
  | 27, _ => exact ok_ck c1_27
  | 28, _ => exact ok_ck c1_28
  | 29, _ => exact ok_ck c1_29
  | 30, _ => exact ok_ck c1_30
  | 31, _ => exact ok_ck c1_31
  | 32, _ => exact ok_ck c1_32
  | 33, _ => exact ok_ck c1_33
  | 34, _ => exact ok_ck c1_34
  | 35, _ => exact ok_ck c1_35
  | 36, _ => exact ok_ck c1_36
  | 37, _ => exact ok_ck c1_37
  | 38, _ => exact ok_ck c1_38
  | 39, _ => exact ok_ck c1_39
  | 40, _ => exact ok_ck c1_40
  | 41, _ => exact ok_ck c1_41
  | 42, _ => exact ok_ck c1_42
  | 43, _ => exact ok_ck c1_43
  | 44, _ => exact ok_ck c1_44
  | 45, _ => exact ok_ck c1_45
  | 46, _ => exact ok_ck c1_46
  | 47, _ => exact ok_ck c1_47
  | 48, _ => exact ok_ck c1_48
  | 49, _ => exact ok_ck c1_49
  | 50, _ => exact ok_ck c1_50
  | 51, _ => exact ok_ck c1_51
  | 52, _ => exact ok_ck c1_52
  | 53, _ => exact ok_ck c1_53
  | 54, _ => exact ok_ck c1_54
  | 55, _ => exact ok_ck c1_55
  | 56, _ => exact ok_ck c1_56
  | 57, _ => exact ok_ck c1_57
  | 58, _ => exact ok_ck c1_58
  | 59, _ => exact ok_ck c1_59
  | 60, _ => exact ok_ck c1_60
  | n + 61, h => omega
theorem all_2 (n : Nat) (h : n ≤ 60) : OkN (tx (txN 2 n)) n := by
  match n, h with
  | 0, _ => exact ok_W cW_0
  | 1, _ => exact ok_W cW_1
  | 2, _ => exact ok_W cW_2
  | 3, _ => exact ok_W cW_3
  | 4, _ => exact ok_W cW_4
  | 5, _ => exact ok_W cW_5
  | 6, _ => exact ok_W cW_6
  | 7, _ => exact ok_W cW_7
  | 8, _ => exact ok_W cW_8
  | 9, _ => exact ok_W cW_9
  | 10, _ => exact ok_W cW_10
  | 11, _ => exact ok_W cW_11
  | 12, _ => exact ok_W cW_12
  | 13, _ => exact ok_W cW_13
  | 14, _ => exact ok_W cW_14
  | 15, _ => exact ok_W cW_15
  | 16, _ => exact ok_W cW_16
  | 17, _ => exact ok_W cW_17
  | 18, _ => exact ok_W cW_18
  | 19, _ => exact ok_W cW_19
  | 20, _ => exact ok_W cW_20
  | 21, _ => exact ok_W cW_21
  | 22, _ => exact ok_W cW_22
  | 23, _ => exact ok_W cW_23
  | 24, _ => exact ok_W cW_24
  | 25, _ => exact ok_W cW_25
  | 26, _ => exact ok_W cW_26
  | 27, _ => exact ok_W cW_27
  | 28, _ => exact ok_W cW_28
  | 29, _ => exact ok_W cW_29
  | 30, _ => exact ok_W cW_30
  | 31, _ => exact ok_W cW_31
  | 32, _ => exact ok_W cW_32
  | 33, _ => exact ok_W cW_33
  | 34, _ => exact ok_W cW_34
  | 35, _ => exact ok_W cW_35
  | 36, _ => exact ok_W cW_36
  | 37, _ => exact ok_W cW_37
  | 38, _ => exact ok_W cW_38
  | 39, _ => exact ok_W cW_39
  | 40, _ => exact ok_W cW_40
  | 41, _ => exact ok_W cW_41
  | 42, _ => exact ok_W cW_42
  | 43, _ => exact ok_W cW_43
  | 44, _ => exact ok_W cW_44
  | 45, _ => exact ok_W cW_45
  | 46, _ => exact ok_W cW_46
  | 47, _ => exact ok_W cW_47
  | 48, _ => exact ok_W cW_48
  | 49, _ => exact ok_W cW_49
  | 50, _ => exact ok_W cW_50
  | 51, _ => exact ok_W cW_51
  | 52, _ => exact ok_W cW_52
  | 53, _ => exact ok_W cW_53
  | 54, _ => exact ok_W cW_54
  | 55, _ => exact ok_W cW_55
  | 56, _ => exact ok_W cW_56
  | 57, _ => exact ok_W cW_57
  | 58, _ => exact ok_W cW_58
  | 59, _ => exact ok_W cW_59
  | 60, _ => exact ok_W cW_60
  | n + 61, h => omega
theorem all_3 (n : Nat) (h : n ≤ 60) : OkN (tx (txN 3 n)) n := by
  match n, h with
  | 0, _ => exact ok_ck c3_0
  | 1, _ => exact ok_ck c3_1
  | 2, _ => exact ok_ck c3_2
  | 3, _ => exact ok_ck c3_3
  | 4, _ => exact ok_ck c3_4
  | 5, _ => exact ok_ck c3_5
  | 6, _ => exact ok_ck c3_6
  | 7, _ => exact ok_ck c3_7
  | 8, _ => exact ok_ck c3_8
  | 9, _ => exact ok_ck c3_9
  | 10, _ => exact ok_ck c3_10
  | 11, _ => exact ok_ck c3_11
  | 12, _ => exact ok_ck c3_12
  | 13, _ => exact ok_ck c3_13
  | 14, _ => exact ok_ck c3_14
  | 15, _ => exact ok_ck c3_15
  | 16, _ => exact ok_ck c3_16
  | 17, _ => exact ok_ck c3_17
  | 18, _ => exact ok_ck c3_18
  | 19, _ => exact ok_ck c3_19
  | 20, _ => exact ok_ck c3_20
  | 21, _ => exact ok_ck c3_21
  | 22, _ => exact ok_ck c3_22
  | 23, _ => exact ok_ck c3_23
  | 24, _ => exact ok_ck c3_24
  | 25, _ => exact ok_ck c3_25
  | 26, _ => exact ok_ck c3_26
  | 27, _ => exact ok_ck c3_27
  | 28, _ => exact ok_ck c3_28
  | 29, _ => exact ok_ck c3_29
  | 30, _ => exact ok_ck c3_30
  | 31, _ => exact ok_ck c3_31
  | 32, _ => exact ok_ck c3_32
  | 33, _ => exact ok_ck c3_33
  | 34, _ => exact ok_ck c3_34
  | 35, _ => exact ok_ck c3_35
  | 36, _ => exact ok_ck c3_36
  | 37, _ => exact ok_ck c3_37
  | 38, _ => exact ok_ck c3_38
  | 39, _ => exact ok_ck c3_39
  | 40, _ => exact ok_ck c3_40
  | 41, _ => exact ok_ck c3_41
  | 42, _ => exact ok_ck c3_42
  | 43, _ => exact ok_ck c3_43
  | 44, _ => exact ok_ck c3_44
  | 45, _ => exact ok_ck c3_45
  | 46, _ => exact ok_ck c3_46
  | 47, _ => exact ok_ck c3_47
  | 48, _ => exact ok_ck c3_48
  | 49, _ => exact ok_ck c3_49
  | 50, _ => exact ok_ck c3_50
  | 51, _ => exact ok_ck c3_51
  | 52, _ => exact ok_ck c3_52
  | 53, _ => exact ok_ck c3_53
  | 54, _ => exact ok_ck c3_54
  | 55, _ => exact ok_ck c3_55
  | 56, _ => exact ok_ck c3_56
  | 57, _ => exact ok_ck c3_57
  | 58, _ => exact ok_ck c3_58
  | 59, _ => exact ok_ck c3_59
  | 60, _ => exact ok_ck c3_60
  | n + 61, h => omega
end Go.Proofs.YtobolipjgkabhaaDoor

namespace Go.Proofs.YtobolipjgkabhaaDoor
open Go.RowKit
set_option linter.unusedVariables false
set_option linter.unusedSimpArgs false

theorem i64_and3 (n : Int) : bits .and .i64 n 3 = n % 4 := by
  have h3 : (BitVec.ofInt 64 3).toNat = 2 ^ 2 - 1 := by decide
  have key : (BitVec.ofInt 64 n &&& BitVec.ofInt 64 3).toNat = (n % ((2 ^ 64 : Nat) : Int)).toNat % 2 ^ 2 := by
    rw [BitVec.toNat_and, BitVec.toNat_ofInt, h3, Nat.and_two_pow_sub_one_eq_mod]
  show IntKind.i64.wrap ((BitVec.ofInt 64 n &&& BitVec.ofInt 64 3).toNat : Nat) = n % 4
  rw [key, IntKind.wrap_i64]
  omega
theorem txN_cat (l m : List UInt8) : tx l ++ tx m = tx (l ++ m) := by
  unfold tx
  rfl
theorem repN_len (l : List UInt8) : ∀ n, (repN n l).length = n * l.length
  | 0 => by simp [repN]
  | n + 1 => by
    show (repN n l ++ l).length = _
    rw [List.length_append, repN_len l n, Nat.succ_mul]
theorem txN_sz (l : List UInt8) : (tx l).size = l.length := by simp [tx, ByteArray.size]
/-- What Parse answers of such a text. -/
theorem nest_yes {s : ByteArray} {k : Nat} (h : OkN s k) (hk : k ≤ 39) (hs : s.size ≤ 8192) (w : World) (hT : Tbs w) : Calls Tryd.prog 5 #[.string s] w fun e w' => ∃ (o m : ByteArray) (kd pl : Nat) (n : Int) (sa : Option Addr) (sm sc : Nat), e = .returned (.tuple #[.agg #[.string o, .string m, .int .i64 (kd : Nat), .int .i64 n, .int .i64 (pl : Nat), .slice sa sm sc], .int .i64 0, .int .i64 0]) ∧ Below w.heap.size w w' := by
  obtain ⟨RW, h1, h2, h3⟩ := h
  cases hr : parF (RW.map (wo s)) with
  | inl t =>
    refine (parse_no s w RW _ hs h1 h2 hr hT.kt hT.sg).mono ?_
    intro e w' hp
    obtain ⟨sa, sm, sc, e1, _, b⟩ := PrP.inl hp
    exact ⟨_, _, _, _, _, sa, sm, sc, e1, b⟩
  | inr x =>
    obtain ⟨a, e⟩ := x
    rw [hr] at h3
    have := h3.1
    omega
theorem nest_no {s : ByteArray} {k : Nat} (h : OkN s k) (hk : ¬ k ≤ 39) (hs : s.size ≤ 8192) (w : World) (hT : Tbs w) : Calls Tryd.prog 5 #[.string s] w fun e w' => ∃ a : Nat, e = .returned (.tuple #[.agg #[.string ⟨#[]⟩, .string ⟨#[]⟩, .int .i64 0, .int .i64 0, .int .i64 0, .slice none 0 0], .int .i64 (a : Nat), .int .i64 2]) ∧ Below w.heap.size w w' := by
  obtain ⟨RW, h1, h2, h3⟩ := h
  cases hr : parF (RW.map (wo s)) with
  | inl t =>
    rw [hr] at h3
    exact absurd h3 hk
  | inr x =>
    obtain ⟨a, e⟩ := x
    rw [hr] at h3
    obtain ⟨_, rfl⟩ := h3
    refine (parse_no s w RW _ hs h1 h2 hr hT.kt hT.sg).mono ?_
    intro e w' hp
    obtain ⟨e1, b⟩ := PrP.inr hp
    exact ⟨a, e1, b⟩
set_option maxRecDepth 100000 in
set_option maxHeartbeats 8000000 in
theorem nests_0 (k : Nat) (hk : k ≤ 60) (how : Int) (hj : bits .and .i64 how 3 = 0) (w : World) (hT : Tbs w) : Calls Tryd.prog 3 #[.int .i64 (k : Nat), .int .i64 how] w fun e w' => e = .returned (.bool true) ∧ Below w.heap.size w w' := by
  have KA := hid (awake_any w hT)
  have HT := hid hT
  have OK := hid (all_0 k hk)
  have h0 : ¬ (k : Int) < 0 := by omega
  have h1 : ¬ (60 : Int) < (k : Int) := by omega
  have HK := hid hk
  have kl : (k : Int) ≤ 60 := by omega
  clear hT hk
  go_enter Tryd.func3, Tryd.ntmps3
  go_upto_region 3 with (go_at_call 4; (with_reducible refine Calls.mono KA.out ?_); rintro e w2 ⟨rfl, b2⟩; have B2 := hid b2; clear b2)
  clear KA
  go_upto_region 15 with fail
  clear hj h0 h1
  have E0 := hid (show (⟨#[]⟩ : ByteArray) = tx (repN 0 (opN 0).1) from rfl)
  have F0 := hid (show (⟨#[]⟩ : ByteArray) = tx (repN 0 (opN 0).2) from rfl)
  go_loopg [9, 7, 8] (k) (fun g iv sv tv wr => ∃ (i : Nat) (s t : ByteArray), i ≤ k ∧ g = k - i ∧ iv = .int .i64 (i : Nat) ∧ sv = .string s ∧ tv = .string t ∧ Hid (s = tx (repN i (opN 0).1)) ∧ Hid (t = tx (repN i (opN 0).2)) ∧ wr = w2)
  case atStart => exact ⟨0, _, _, Nat.zero_le _, rfl, rfl, rfl, rfl, E0, F0, rfl⟩
  case round =>
    obtain ⟨i, s, t, hi, rfl, rfl, rfl, rfl, SE, TE, rfl⟩ := hrel
    have zs : s.size ≤ 60 := by
      rw [SE.out, txN_sz, repN_len]
      have h1 := HK.out
      have h2 : (opN 0).1.length = 1 := rfl
      rw [h2]
      omega
    have zt : t.size ≤ 60 := by
      rw [TE.out, txN_sz, repN_len]
      have h1 := HK.out
      have h2 : (opN 0).2.length = 1 := rfl
      rw [h2]
      omega
    by_cases q : i < k
    · have q' : (i : Int) < (k : Int) := by omega
      have S1 := hid (show s ++ ⟨#[40]⟩ = tx (repN (i + 1) (opN 0).1) from by rw [SE.out]; exact txN_cat _ _)
      have T1 := hid (show t ++ ⟨#[41]⟩ = tx (repN (i + 1) (opN 0).2) from by rw [TE.out]; exact txN_cat _ _)
      go_wp2_with fail
      go_roundg (k - (i + 1))
      case measure => omega
      case rel => exact ⟨i + 1, _, _, by omega, rfl, by rw [Int.natCast_add]; rfl, rfl, rfl, S1, T1, rfl⟩
    · have q' : ¬ (i : Int) < (k : Int) := by omega
      obtain rfl : i = k := by omega
      have TX := hid (show (((⟨#[114, 117, 108, 101, 32, 97, 32, 99, 111, 117, 110, 116, 32, 61, 32]⟩ ++ s) ++ ⟨#[49]⟩) ++ t) ++ ⟨#[59]⟩ = tx (txN 0 i) from by
        rw [SE.out, TE.out]
        unfold txN
        rw [← txN_cat, ← txN_cat, ← txN_cat, ← txN_cat]
        rfl)
      have SZ := hid (show (tx (txN 0 i)).size ≤ 8192 from by
        rw [txN_sz]
        unfold txN
        simp only [List.length_append, repN_len, List.length_cons, List.length_nil]
        have h1 := HK.out
        have h2 : (opN 0).1.length = 1 := rfl
        have h3 : (opN 0).2.length = 1 := rfl
        rw [h2, h3]
        omega)
      by_cases y : i ≤ 39
      · have y' : ¬ (39 : Int) < (i : Int) := by omega
        have KP := hid (nest_yes OK.out y SZ.out wr (HT.out.next B2.out))
        rw [← TX.out] at KP
        clear SE TE OK TX SZ
        go_wp2_with (go_at_call 5; (with_reducible refine Calls.mono KP.out ?_); rintro e w5 ⟨o, m, kd, pl, n, sa, sm, sc, rfl, b5⟩; have B5 := hid b5; clear b5)
        go_returns
        exact ⟨rfl, nextB (nextB B2.out B5.out) ((Below.refl _ _).alloc (Nat.le_refl _) _)⟩
      · have y' : (39 : Int) < (i : Int) := by omega
        have KP := hid (nest_no OK.out y SZ.out wr (HT.out.next B2.out))
        rw [← TX.out] at KP
        clear SE TE OK TX SZ
        go_wp2_with (go_at_call 5; (with_reducible refine Calls.mono KP.out ?_); rintro e w5 ⟨a, rfl, b5⟩; have B5 := hid b5; clear b5)
        go_returns
        exact ⟨rfl, nextB (nextB B2.out B5.out) ((Below.refl _ _).alloc (Nat.le_refl _) _)⟩
set_option maxRecDepth 100000 in
set_option maxHeartbeats 8000000 in
theorem nests_1 (k : Nat) (hk : k ≤ 60) (how : Int) (hj : bits .and .i64 how 3 = 1) (w : World) (hT : Tbs w) : Calls Tryd.prog 3 #[.int .i64 (k : Nat), .int .i64 how] w fun e w' => e = .returned (.bool true) ∧ Below w.heap.size w w' := by
  have KA := hid (awake_any w hT)
  have HT := hid hT
  have OK := hid (all_1 k hk)
  have h0 : ¬ (k : Int) < 0 := by omega
  have h1 : ¬ (60 : Int) < (k : Int) := by omega
  have HK := hid hk
  have kl : (k : Int) ≤ 60 := by omega
  clear hT hk
  go_enter Tryd.func3, Tryd.ntmps3
  go_upto_region 3 with (go_at_call 4; (with_reducible refine Calls.mono KA.out ?_); rintro e w2 ⟨rfl, b2⟩; have B2 := hid b2; clear b2)
  clear KA
  go_upto_region 15 with fail
  clear hj h0 h1
  have E0 := hid (show (⟨#[]⟩ : ByteArray) = tx (repN 0 (opN 1).1) from rfl)
  have F0 := hid (show (⟨#[]⟩ : ByteArray) = tx (repN 0 (opN 1).2) from rfl)
  go_loopg [9, 7, 8] (k) (fun g iv sv tv wr => ∃ (i : Nat) (s t : ByteArray), i ≤ k ∧ g = k - i ∧ iv = .int .i64 (i : Nat) ∧ sv = .string s ∧ tv = .string t ∧ Hid (s = tx (repN i (opN 1).1)) ∧ Hid (t = tx (repN i (opN 1).2)) ∧ wr = w2)
  case atStart => exact ⟨0, _, _, Nat.zero_le _, rfl, rfl, rfl, rfl, E0, F0, rfl⟩
  case round =>
    obtain ⟨i, s, t, hi, rfl, rfl, rfl, rfl, SE, TE, rfl⟩ := hrel
    have zs : s.size ≤ 60 := by
      rw [SE.out, txN_sz, repN_len]
      have h1 := HK.out
      have h2 : (opN 1).1.length = 1 := rfl
      rw [h2]
      omega
    have zt : t.size ≤ 0 := by
      rw [TE.out, txN_sz, repN_len]
      have h1 := HK.out
      have h2 : (opN 1).2.length = 0 := rfl
      rw [h2]
      omega
    by_cases q : i < k
    · have q' : (i : Int) < (k : Int) := by omega
      have S1 := hid (show s ++ ⟨#[45]⟩ = tx (repN (i + 1) (opN 1).1) from by rw [SE.out]; exact txN_cat _ _)
      have T1 := hid (show t ++ ⟨#[]⟩ = tx (repN (i + 1) (opN 1).2) from by rw [TE.out]; exact txN_cat _ _)
      go_wp2_with fail
      go_roundg (k - (i + 1))
      case measure => omega
      case rel => exact ⟨i + 1, _, _, by omega, rfl, by rw [Int.natCast_add]; rfl, rfl, rfl, S1, T1, rfl⟩
    · have q' : ¬ (i : Int) < (k : Int) := by omega
      obtain rfl : i = k := by omega
      have TX := hid (show (((⟨#[114, 117, 108, 101, 32, 97, 32, 99, 111, 117, 110, 116, 32, 61, 32]⟩ ++ s) ++ ⟨#[49]⟩) ++ t) ++ ⟨#[59]⟩ = tx (txN 1 i) from by
        rw [SE.out, TE.out]
        unfold txN
        rw [← txN_cat, ← txN_cat, ← txN_cat, ← txN_cat]
        rfl)
      have SZ := hid (show (tx (txN 1 i)).size ≤ 8192 from by
        rw [txN_sz]
        unfold txN
        simp only [List.length_append, repN_len, List.length_cons, List.length_nil]
        have h1 := HK.out
        have h2 : (opN 1).1.length = 1 := rfl
        have h3 : (opN 1).2.length = 0 := rfl
        rw [h2, h3]
        omega)
      by_cases y : i ≤ 39
      · have y' : ¬ (39 : Int) < (i : Int) := by omega
        have KP := hid (nest_yes OK.out y SZ.out wr (HT.out.next B2.out))
        rw [← TX.out] at KP
        clear SE TE OK TX SZ
        go_wp2_with (go_at_call 5; (with_reducible refine Calls.mono KP.out ?_); rintro e w5 ⟨o, m, kd, pl, n, sa, sm, sc, rfl, b5⟩; have B5 := hid b5; clear b5)
        go_returns
        exact ⟨rfl, nextB (nextB B2.out B5.out) ((Below.refl _ _).alloc (Nat.le_refl _) _)⟩
      · have y' : (39 : Int) < (i : Int) := by omega
        have KP := hid (nest_no OK.out y SZ.out wr (HT.out.next B2.out))
        rw [← TX.out] at KP
        clear SE TE OK TX SZ
        go_wp2_with (go_at_call 5; (with_reducible refine Calls.mono KP.out ?_); rintro e w5 ⟨a, rfl, b5⟩; have B5 := hid b5; clear b5)
        go_returns
        exact ⟨rfl, nextB (nextB B2.out B5.out) ((Below.refl _ _).alloc (Nat.le_refl _) _)⟩
set_option maxRecDepth 100000 in
set_option maxHeartbeats 8000000 in
theorem nests_2 (k : Nat) (hk : k ≤ 60) (how : Int) (hj : bits .and .i64 how 3 = 2) (w : World) (hT : Tbs w) : Calls Tryd.prog 3 #[.int .i64 (k : Nat), .int .i64 how] w fun e w' => e = .returned (.bool true) ∧ Below w.heap.size w w' := by
  have KA := hid (awake_any w hT)
  have HT := hid hT
  have OK := hid (all_2 k hk)
  have h0 : ¬ (k : Int) < 0 := by omega
  have h1 : ¬ (60 : Int) < (k : Int) := by omega
  have HK := hid hk
  have kl : (k : Int) ≤ 60 := by omega
  clear hT hk
  go_enter Tryd.func3, Tryd.ntmps3
  go_upto_region 3 with (go_at_call 4; (with_reducible refine Calls.mono KA.out ?_); rintro e w2 ⟨rfl, b2⟩; have B2 := hid b2; clear b2)
  clear KA
  go_upto_region 15 with fail
  clear hj h0 h1
  have E0 := hid (show (⟨#[]⟩ : ByteArray) = tx (repN 0 (opN 2).1) from rfl)
  have F0 := hid (show (⟨#[]⟩ : ByteArray) = tx (repN 0 (opN 2).2) from rfl)
  go_loopg [9, 7, 8] (k) (fun g iv sv tv wr => ∃ (i : Nat) (s t : ByteArray), i ≤ k ∧ g = k - i ∧ iv = .int .i64 (i : Nat) ∧ sv = .string s ∧ tv = .string t ∧ Hid (s = tx (repN i (opN 2).1)) ∧ Hid (t = tx (repN i (opN 2).2)) ∧ wr = w2)
  case atStart => exact ⟨0, _, _, Nat.zero_le _, rfl, rfl, rfl, rfl, E0, F0, rfl⟩
  case round =>
    obtain ⟨i, s, t, hi, rfl, rfl, rfl, rfl, SE, TE, rfl⟩ := hrel
    have zs : s.size ≤ 780 := by
      rw [SE.out, txN_sz, repN_len]
      have h1 := HK.out
      have h2 : (opN 2).1.length = 13 := rfl
      rw [h2]
      omega
    have zt : t.size ≤ 420 := by
      rw [TE.out, txN_sz, repN_len]
      have h1 := HK.out
      have h2 : (opN 2).2.length = 7 := rfl
      rw [h2]
      omega
    by_cases q : i < k
    · have q' : (i : Int) < (k : Int) := by omega
      have S1 := hid (show s ++ ⟨#[105, 102, 32, 116, 114, 117, 101, 32, 116, 104, 101, 110, 32]⟩ = tx (repN (i + 1) (opN 2).1) from by rw [SE.out]; exact txN_cat _ _)
      have T1 := hid (show t ++ ⟨#[32, 101, 108, 115, 101, 32, 49]⟩ = tx (repN (i + 1) (opN 2).2) from by rw [TE.out]; exact txN_cat _ _)
      go_wp2_with fail
      go_roundg (k - (i + 1))
      case measure => omega
      case rel => exact ⟨i + 1, _, _, by omega, rfl, by rw [Int.natCast_add]; rfl, rfl, rfl, S1, T1, rfl⟩
    · have q' : ¬ (i : Int) < (k : Int) := by omega
      obtain rfl : i = k := by omega
      have TX := hid (show (((⟨#[114, 117, 108, 101, 32, 97, 32, 99, 111, 117, 110, 116, 32, 61, 32]⟩ ++ s) ++ ⟨#[49]⟩) ++ t) ++ ⟨#[59]⟩ = tx (txN 2 i) from by
        rw [SE.out, TE.out]
        unfold txN
        rw [← txN_cat, ← txN_cat, ← txN_cat, ← txN_cat]
        rfl)
      have SZ := hid (show (tx (txN 2 i)).size ≤ 8192 from by
        rw [txN_sz]
        unfold txN
        simp only [List.length_append, repN_len, List.length_cons, List.length_nil]
        have h1 := HK.out
        have h2 : (opN 2).1.length = 13 := rfl
        have h3 : (opN 2).2.length = 7 := rfl
        rw [h2, h3]
        omega)
      by_cases y : i ≤ 39
      · have y' : ¬ (39 : Int) < (i : Int) := by omega
        have KP := hid (nest_yes OK.out y SZ.out wr (HT.out.next B2.out))
        rw [← TX.out] at KP
        clear SE TE OK TX SZ
        go_wp2_with (go_at_call 5; (with_reducible refine Calls.mono KP.out ?_); rintro e w5 ⟨o, m, kd, pl, n, sa, sm, sc, rfl, b5⟩; have B5 := hid b5; clear b5)
        go_returns
        exact ⟨rfl, nextB (nextB B2.out B5.out) ((Below.refl _ _).alloc (Nat.le_refl _) _)⟩
      · have y' : (39 : Int) < (i : Int) := by omega
        have KP := hid (nest_no OK.out y SZ.out wr (HT.out.next B2.out))
        rw [← TX.out] at KP
        clear SE TE OK TX SZ
        go_wp2_with (go_at_call 5; (with_reducible refine Calls.mono KP.out ?_); rintro e w5 ⟨a, rfl, b5⟩; have B5 := hid b5; clear b5)
        go_returns
        exact ⟨rfl, nextB (nextB B2.out B5.out) ((Below.refl _ _).alloc (Nat.le_refl _) _)⟩
set_option maxRecDepth 100000 in
set_option maxHeartbeats 8000000 in
theorem nests_3 (k : Nat) (hk : k ≤ 60) (how : Int) (hj : bits .and .i64 how 3 = 3) (w : World) (hT : Tbs w) : Calls Tryd.prog 3 #[.int .i64 (k : Nat), .int .i64 how] w fun e w' => e = .returned (.bool true) ∧ Below w.heap.size w w' := by
  have KA := hid (awake_any w hT)
  have HT := hid hT
  have OK := hid (all_3 k hk)
  have h0 : ¬ (k : Int) < 0 := by omega
  have h1 : ¬ (60 : Int) < (k : Int) := by omega
  have HK := hid hk
  have kl : (k : Int) ≤ 60 := by omega
  clear hT hk
  go_enter Tryd.func3, Tryd.ntmps3
  go_upto_region 3 with (go_at_call 4; (with_reducible refine Calls.mono KA.out ?_); rintro e w2 ⟨rfl, b2⟩; have B2 := hid b2; clear b2)
  clear KA
  go_upto_region 15 with fail
  clear hj h0 h1
  have E0 := hid (show (⟨#[]⟩ : ByteArray) = tx (repN 0 (opN 3).1) from rfl)
  have F0 := hid (show (⟨#[]⟩ : ByteArray) = tx (repN 0 (opN 3).2) from rfl)
  go_loopg [9, 7, 8] (k) (fun g iv sv tv wr => ∃ (i : Nat) (s t : ByteArray), i ≤ k ∧ g = k - i ∧ iv = .int .i64 (i : Nat) ∧ sv = .string s ∧ tv = .string t ∧ Hid (s = tx (repN i (opN 3).1)) ∧ Hid (t = tx (repN i (opN 3).2)) ∧ wr = w2)
  case atStart => exact ⟨0, _, _, Nat.zero_le _, rfl, rfl, rfl, rfl, E0, F0, rfl⟩
  case round =>
    obtain ⟨i, s, t, hi, rfl, rfl, rfl, rfl, SE, TE, rfl⟩ := hrel
    have zs : s.size ≤ 420 := by
      rw [SE.out, txN_sz, repN_len]
      have h1 := HK.out
      have h2 : (opN 3).1.length = 7 := rfl
      rw [h2]
      omega
    have zt : t.size ≤ 60 := by
      rw [TE.out, txN_sz, repN_len]
      have h1 := HK.out
      have h2 : (opN 3).2.length = 1 := rfl
      rw [h2]
      omega
    by_cases q : i < k
    · have q' : (i : Int) < (k : Int) := by omega
      have S1 := hid (show s ++ ⟨#[109, 105, 110, 40, 49, 44, 32]⟩ = tx (repN (i + 1) (opN 3).1) from by rw [SE.out]; exact txN_cat _ _)
      have T1 := hid (show t ++ ⟨#[41]⟩ = tx (repN (i + 1) (opN 3).2) from by rw [TE.out]; exact txN_cat _ _)
      go_wp2_with fail
      go_roundg (k - (i + 1))
      case measure => omega
      case rel => exact ⟨i + 1, _, _, by omega, rfl, by rw [Int.natCast_add]; rfl, rfl, rfl, S1, T1, rfl⟩
    · have q' : ¬ (i : Int) < (k : Int) := by omega
      obtain rfl : i = k := by omega
      have TX := hid (show (((⟨#[114, 117, 108, 101, 32, 97, 32, 99, 111, 117, 110, 116, 32, 61, 32]⟩ ++ s) ++ ⟨#[49]⟩) ++ t) ++ ⟨#[59]⟩ = tx (txN 3 i) from by
        rw [SE.out, TE.out]
        unfold txN
        rw [← txN_cat, ← txN_cat, ← txN_cat, ← txN_cat]
        rfl)
      have SZ := hid (show (tx (txN 3 i)).size ≤ 8192 from by
        rw [txN_sz]
        unfold txN
        simp only [List.length_append, repN_len, List.length_cons, List.length_nil]
        have h1 := HK.out
        have h2 : (opN 3).1.length = 7 := rfl
        have h3 : (opN 3).2.length = 1 := rfl
        rw [h2, h3]
        omega)
      by_cases y : i ≤ 39
      · have y' : ¬ (39 : Int) < (i : Int) := by omega
        have KP := hid (nest_yes OK.out y SZ.out wr (HT.out.next B2.out))
        rw [← TX.out] at KP
        clear SE TE OK TX SZ
        go_wp2_with (go_at_call 5; (with_reducible refine Calls.mono KP.out ?_); rintro e w5 ⟨o, m, kd, pl, n, sa, sm, sc, rfl, b5⟩; have B5 := hid b5; clear b5)
        go_returns
        exact ⟨rfl, nextB (nextB B2.out B5.out) ((Below.refl _ _).alloc (Nat.le_refl _) _)⟩
      · have y' : (39 : Int) < (i : Int) := by omega
        have KP := hid (nest_no OK.out y SZ.out wr (HT.out.next B2.out))
        rw [← TX.out] at KP
        clear SE TE OK TX SZ
        go_wp2_with (go_at_call 5; (with_reducible refine Calls.mono KP.out ?_); rintro e w5 ⟨a, rfl, b5⟩; have B5 := hid b5; clear b5)
        go_returns
        exact ⟨rfl, nextB (nextB B2.out B5.out) ((Below.refl _ _).alloc (Nat.le_refl _) _)⟩
set_option maxRecDepth 100000 in
set_option maxHeartbeats 8000000 in
theorem nests_any (n how : Int) (w : World) (hT : Tbs w) : Calls Tryd.prog 3 #[.int .i64 n, .int .i64 how] w fun e w' => e = .returned (.bool true) ∧ Below w.heap.size w w' := by
  by_cases h0 : n < 0
  · have KA := hid (awake_any w hT)
    clear hT
    go_enter Tryd.func3, Tryd.ntmps3
    go_wp2_with (go_at_call 4; (with_reducible refine Calls.mono KA.out ?_); rintro e w2 ⟨rfl, b2⟩; have B2 := hid b2; clear b2)
    go_returns
    exact ⟨rfl, B2.out⟩
  by_cases h1 : (60 : Int) < n
  · have KA := hid (awake_any w hT)
    clear hT
    go_enter Tryd.func3, Tryd.ntmps3
    go_wp2_with (go_at_call 4; (with_reducible refine Calls.mono KA.out ?_); rintro e w2 ⟨rfl, b2⟩; have B2 := hid b2; clear b2)
    go_returns
    exact ⟨rfl, B2.out⟩
  obtain ⟨k, rfl⟩ := Int.eq_ofNat_of_zero_le (show 0 ≤ n by omega)
  have e := i64_and3 how
  have hc : how % 4 = 0 ∨ how % 4 = 1 ∨ how % 4 = 2 ∨ how % 4 = 3 := by omega
  rcases hc with h | h | h | h <;> rw [h] at e
  · exact nests_0 k (by omega) how e w hT
  · exact nests_1 k (by omega) how e w hT
  · exact nests_2 k (by omega) how e w hT
  · exact nests_3 k (by omega) how e w hT
end Go.Proofs.YtobolipjgkabhaaDoor

