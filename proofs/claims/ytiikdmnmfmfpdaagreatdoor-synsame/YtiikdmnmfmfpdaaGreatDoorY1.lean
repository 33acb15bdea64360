/- The walks over package publicanref9, on: run, number, money, percent. -/
import Derived.Test.YtiikdmnmfmfpdaaGreatDoorYk
namespace Go.Proofs.YtiikdmnmfmfpdaaGreatDoor
open Go.RowKit
set_option linter.unusedVariables false
set_option linter.unusedSimpArgs false

def rnN (s : ByteArray) (a : Nat) : Nat := runD (tl s a)
set_option maxHeartbeats 1000000 in
theorem yrun_any (s : ByteArray) (a : Nat) (w : World) (ha : a ≤ s.size) (hs : s.size < 9000000000000000000) :
    Calls Tryz.prog 35 #[.string s, .int .i64 (a : Nat)] w fun e w' => e = .returned (.int .i64 (rnN s a : Nat)) ∧ Below w.heap.size w w' := by
  go_enter Tryz.func35, Tryz.ntmps35
  go_wp2_with fail
  go_loopg [5] (s.size + 1 - a) (fun g iv wr => ∃ k : Nat, a + k ≤ s.size ∧ g = s.size + 1 - (a + k) ∧ iv = .int .i64 (k : Nat) ∧ Below w.heap.size w wr ∧ Hid (k + runD (tl s (a + k)) = rnN s a))
  case atStart => exact ⟨0, ha, rfl, rfl, Below.refl _ _, Nat.zero_add _⟩
  case round =>
    obtain ⟨k, hk, rfl, rfl, hb, hr⟩ := hrel
    by_cases q : a + k < s.size
    · have q' : (a : Int) + (k : Int) < (s.size : Int) := by omega
      have xi := congrArg (fun c : UInt8 => (c.toNat : Int)) (bt_at q)
      cases d : dgB (bt s (a + k)).toNat
      · have HX := hid (by rw [← hr.out, runD_cons q, d]; rfl : rnN s a = k)
        go_wp2_with (go_at_call 32; refine (ydigit_any _ _).mono ?_; rintro e w5 ⟨rfl, rfl⟩)
        go_ret
        exact ⟨by rw [HX.out]; rfl, hb⟩
      · have HX := hid (by rw [← hr.out, runD_cons q, d, if_pos rfl]; show k + 1 + runD (tl s (a + (k + 1))) = _; rw [show a + (k + 1) = a + k + 1 by omega]; omega : k + 1 + runD (tl s (a + (k + 1))) = rnN s a)
        go_wp2_with (go_at_call 32; refine (ydigit_any _ _).mono ?_; rintro e w5 ⟨rfl, rfl⟩)
        go_roundg (s.size + 1 - (a + (k + 1)))
        case measure => omega
        case rel => exact ⟨k + 1, by omega, rfl, by rw [Int.natCast_add]; rfl, hb, HX⟩
    · have HX := hid (by rw [← hr.out, tl_nil (by omega)]; rfl : rnN s a = k)
      have q' : ¬ (a : Int) + (k : Int) < (s.size : Int) := by omega
      go_wp2_with fail
      go_ret
      exact ⟨by rw [HX.out]; rfl, hb⟩

def fg (s : ByteArray) : Nat := fig 0 (tl s 0)
def nV (m : Nat) (s : ByteArray) : Nat := if fg s ≤ m then fg s else 0
def nB (m : Nat) (s : ByteArray) : Bool := decide (fg s ≤ m)
set_option maxHeartbeats 1000000 in
theorem ynumber_any (s : ByteArray) (m : Nat) (w : World) (hm : m ≤ 4503599627370496) (hd : AllD s) (hs : s.size < 9000000000000000000) :
    Calls Tryz.prog 67 #[.string s, .int .i64 (m : Nat)] w fun e w' => e = .returned (.tuple #[.int .i64 (nV m s : Nat), .bool (nB m s)]) ∧ w = w' := by
  have HD := hid hd
  clear hd
  go_enter Tryz.func67, Tryz.ntmps67
  go_wp2_with fail
  go_loopg [6, 7] s.size (fun g nv iv wr => ∃ k v : Nat, k ≤ s.size ∧ g = s.size - k ∧ v ≤ m ∧ nv = .int .i64 (v : Nat) ∧ iv = .int .i64 (k : Nat) ∧ w = wr ∧ Hid (fig v (tl s k) = fg s))
  case atStart => exact ⟨0, 0, Nat.zero_le _, rfl, Nat.zero_le _, rfl, rfl, rfl, rfl⟩
  case round =>
    obtain ⟨k, v, hk, rfl, hv, rfl, rfl, rfl, hr⟩ := hrel
    by_cases q : k < s.size
    · have q' : (k : Int) < (s.size : Int) := by omega
      have xi := congrArg (fun c : UInt8 => (c.toNat : Int)) (bt_at q)
      obtain ⟨d0, d1⟩ := dgB_of (HD.out _ (bt_mem q))
      have HX := hid (by rw [← fig_cons q]; exact hr.out : fig (10 * v + ((bt s k).toNat - 48)) (tl s (k + 1)) = fg s)
      obtain ⟨c, hc⟩ : ∃ c : Nat, c = (bt s k).toNat - 48 := ⟨_, rfl⟩
      have hc' : ((bt s k).toNat : Int) = c + 48 := by omega
      rw [hc'] at xi
      rw [← hc] at HX
      have c9 : c ≤ 9 := by omega
      have dv : ((m : Nat) : Int) / 10 = ((m / 10 : Nat) : Int) := by omega
      clear hc hc' d0 d1
      by_cases z : 10 * v + c ≤ m
      · have z0 : ¬ ((m / 10 : Nat) : Int) < (v : Int) := by omega
        have z' : ¬ (m : Int) < 10 * (v : Int) + (c : Int) := by omega
        obtain ⟨M, hM⟩ : ∃ M : Nat, M = m / 10 := ⟨_, rfl⟩
        rw [← hM] at z0 dv
        clear hM
        go_wp2_with fail
        go_roundg (s.size - (k + 1))
        case measure => omega
        case rel => exact ⟨k + 1, 10 * v + c, by omega, rfl, z, by congr 1, by rw [Int.natCast_add]; rfl, rfl, HX⟩
      · have F1 := hid (by unfold nV; rw [if_neg (by have := fig_ge (tl s (k + 1)) (10 * v + c); rw [HX.out] at this; omega)] : nV m s = 0)
        have F2 := hid (by unfold nB; exact decide_eq_false (by have := fig_ge (tl s (k + 1)) (10 * v + c); rw [HX.out] at this; omega) : nB m s = false)
        have z' : (m : Int) < 10 * (v : Int) + (c : Int) := by omega
        by_cases y : m / 10 < v
        · have z0 : ((m / 10 : Nat) : Int) < (v : Int) := by omega
          obtain ⟨M, hM⟩ : ∃ M : Nat, M = m / 10 := ⟨_, rfl⟩
          rw [← hM] at z0 dv
          clear hM y
          go_wp2_with fail
          go_ret2
          exact ⟨by rw [F1.out, F2.out]; rfl, rfl⟩
        · have z0 : ¬ ((m / 10 : Nat) : Int) < (v : Int) := by omega
          obtain ⟨M, hM⟩ : ∃ M : Nat, M = m / 10 := ⟨_, rfl⟩
          rw [← hM] at z0 dv
          clear hM y
          go_wp2_with fail
          go_ret2
          exact ⟨by rw [F1.out, F2.out]; rfl, rfl⟩
    · have q' : ¬ (k : Int) < (s.size : Int) := by omega
      have e := hr.out
      rw [tl_nil (by omega)] at e
      have e : v = fg s := e
      have F1 := hid (by unfold nV; rw [if_pos (by omega), e] : nV m s = v)
      have F2 := hid (by unfold nB; exact decide_eq_true (by omega) : nB m s = true)
      clear e
      go_wp2_with fail
      go_ret2
      exact ⟨by rw [F1.out, F2.out]; rfl, rfl⟩

theorem ymoney_any (a c : ByteArray) (w : World) (ha : AllD a) (hc : AllD c) (h9 : fg c ≤ 99) (sa : a.size < 9000000000000000000) (sc : c.size < 9000000000000000000) :
    Calls Tryz.prog 36 #[.string a, .string c] w fun e w' => e = .returned (.tuple #[.int .i64 ((if 100 * fg a + fg c ≤ 4503599627370496 then 100 * fg a + fg c else 0 : Nat) : Int), .bool (decide (100 * fg a + fg c ≤ 4503599627370496))]) ∧ w = w' := by
  have K1 := hid (fun w => ynumber_any a 4503599627370496 w (by omega) ha sa : ∀ w, Calls Tryz.prog 67 #[.string a, .int .i64 4503599627370496] w fun e w' => e = .returned (.tuple #[.int .i64 (nV 4503599627370496 a : Nat), .bool (nB 4503599627370496 a)]) ∧ w = w')
  have K2 := hid (fun w => ynumber_any c 99 w (by omega) hc sc : ∀ w, Calls Tryz.prog 67 #[.string c, .int .i64 99] w fun e w' => e = .returned (.tuple #[.int .i64 (nV 99 c : Nat), .bool (nB 99 c)]) ∧ w = w')
  have e2 : nV 99 c = fg c := if_pos h9
  rw [e2] at K2
  clear e2
  unfold nV nB at K1
  unfold nB at K2
  generalize fg a = V at *
  generalize fg c = C at *
  by_cases z : 100 * V + C ≤ 4503599627370496
  · rw [if_pos z, decide_eq_true z]
    rw [if_pos (by omega), decide_eq_true (by omega)] at K1
    rw [decide_eq_true h9] at K2
    have z1 : ¬ (45035996273704 : Int) < (V : Int) := by omega
    have z2 : ¬ (4503599627370496 : Int) < 100 * (V : Int) + (C : Int) := by omega
    go_enter Tryz.func36, Tryz.ntmps36
    go_wp2_with (first | (go_at_call 67; with_reducible refine Calls.mono (K1.out _) ?_; rintro e w1 ⟨rfl, rfl⟩) | (go_at_call 67; with_reducible refine Calls.mono (K2.out _) ?_; rintro e w1 ⟨rfl, rfl⟩))
    go_ret2
    exact ⟨by congr 1, rfl⟩
  · rw [if_neg z, decide_eq_false z]
    rw [decide_eq_true h9] at K2
    by_cases y : V ≤ 4503599627370496
    · rw [if_pos y, decide_eq_true y] at K1
      by_cases x : V ≤ 45035996273704
      · have z1 : ¬ (45035996273704 : Int) < (V : Int) := by omega
        have z2 : (4503599627370496 : Int) < 100 * (V : Int) + (C : Int) := by omega
        go_enter Tryz.func36, Tryz.ntmps36
        go_wp2_with (first | (go_at_call 67; with_reducible refine Calls.mono (K1.out _) ?_; rintro e w1 ⟨rfl, rfl⟩) | (go_at_call 67; with_reducible refine Calls.mono (K2.out _) ?_; rintro e w1 ⟨rfl, rfl⟩))
        go_ret2
        exact ⟨rfl, rfl⟩
      · have z1 : (45035996273704 : Int) < (V : Int) := by omega
        go_enter Tryz.func36, Tryz.ntmps36
        go_wp2_with (first | (go_at_call 67; with_reducible refine Calls.mono (K1.out _) ?_; rintro e w1 ⟨rfl, rfl⟩) | (go_at_call 67; with_reducible refine Calls.mono (K2.out _) ?_; rintro e w1 ⟨rfl, rfl⟩))
        go_ret2
        exact ⟨rfl, rfl⟩
    · rw [if_neg y, decide_eq_false y] at K1
      go_enter Tryz.func36, Tryz.ntmps36
      go_wp2_with (first | (go_at_call 67; with_reducible refine Calls.mono (K1.out _) ?_; rintro e w1 ⟨rfl, rfl⟩) | (go_at_call 67; with_reducible refine Calls.mono (K2.out _) ?_; rintro e w1 ⟨rfl, rfl⟩))
      go_ret2
      exact ⟨rfl, rfl⟩
end Go.Proofs.YtiikdmnmfmfpdaaGreatDoor
