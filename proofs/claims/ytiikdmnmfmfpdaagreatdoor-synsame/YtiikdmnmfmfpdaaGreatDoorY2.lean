/- The walks over package publicanref9, on: percent. -/
import Derived.Test.YtiikdmnmfmfpdaaGreatDoorY1
namespace Go.Proofs.YtiikdmnmfmfpdaaGreatDoor
open Go.RowKit
set_option linter.unusedVariables false
set_option linter.unusedSimpArgs false

theorem fg_tx (l : List UInt8) : fg (tx l) = fig 0 l := by unfold fg tl tx; simp
theorem tx_sz (l : List UInt8) : (tx l).size = l.length := by simp [tx, ByteArray.size]
theorem tx_cat (l m : List UInt8) : tx l ++ tx m = tx (l ++ m) := by
  rw [← tx_data (tx l ++ tx m), cat_data]
  simp [tx]
theorem pad_more {l : List UInt8} (h : l.length < 4) : pad4 (l ++ [48]) = pad4 l := by
  match l, h with
  | [], _ => rfl
  | [a], _ => rfl
  | [a, b], _ => rfl
  | [a, b, c], _ => rfl
  | a :: b :: c :: d :: l, h => simp at h; omega
theorem pad_done {l : List UInt8} (h : l.length = 4) : pad4 l = l := by
  unfold pad4
  rw [List.take_append_of_le_length (by omega), List.take_of_length_le (by omega)]
theorem fig_lt (l : List UInt8) : ∀ n, (∀ c ∈ l, c.toNat ≤ 57) → fig n l < (n + 1) * 10 ^ l.length := by
  induction l with
  | nil => intro n _; show n < (n + 1) * 1; omega
  | cons c l ih =>
    intro n h
    have h1 : c.toNat ≤ 57 := h c List.mem_cons_self
    have h2 := ih (10 * n + (c.toNat - 48)) (fun d hd => h d (List.mem_cons_of_mem _ hd))
    have h4 : (n + 1) * 10 ^ (c :: l).length = (10 * (n + 1)) * 10 ^ l.length := by rw [List.length_cons, Nat.pow_succ, Nat.mul_comm (10 ^ l.length) 10, ← Nat.mul_assoc, Nat.mul_comm (n + 1) 10]
    rw [h4]
    change fig (10 * n + (c.toNat - 48)) l < _
    generalize 10 ^ l.length = X at *
    generalize c.toNat = C at *
    have h3 : (10 * n + (C - 48) + 1) * X ≤ (10 * (n + 1)) * X := Nat.mul_le_mul_right X (by omega)
    exact Nat.lt_of_lt_of_le h2 h3
theorem fig_4 {l : List UInt8} (h : l.length ≤ 4) (hd : ∀ c ∈ l, dgB c.toNat = true) : fig 0 (pad4 l) ≤ 9999 := by
  have key : ∀ c ∈ pad4 l, c.toNat ≤ 57 := by
    intro c hc
    have := pad_dig hd c (by simpa [tx] using hc)
    have := (dgB_of this).2
    omega
  have hl : (pad4 l).length = 4 := by unfold pad4; simp
  have := fig_lt (pad4 l) 0 key
  rw [hl] at this
  omega
theorem fig_of4 (n : Nat) : ∀ l : List UInt8, l.length = 4 → fig n l = 10000 * n + fig 0 l
  | [a, b, c, d], _ => by
    show 10 * (10 * (10 * (10 * n + (a.toNat - 48)) + (b.toNat - 48)) + (c.toNat - 48)) + (d.toNat - 48) = 10000 * n + (10 * (10 * (10 * (10 * 0 + (a.toNat - 48)) + (b.toNat - 48)) + (c.toNat - 48)) + (d.toNat - 48))
    omega
theorem fig_of2 (n : Nat) : ∀ l : List UInt8, l.length = 2 → fig n l = 100 * n + fig 0 l
  | [a, b], _ => by
    show 10 * (10 * n + (a.toNat - 48)) + (b.toNat - 48) = 100 * n + (10 * (10 * 0 + (a.toNat - 48)) + (b.toNat - 48))
    omega
theorem fig_pad (n : Nat) (l : List UInt8) : fig n (pad4 l) = 10000 * n + fig 0 (pad4 l) := fig_of4 n _ (by unfold pad4; simp)

def rtV (x : Nat) : Nat := if x ≤ 1000000000000 then x else 0
def rtB (x : Nat) : Bool := decide (x ≤ 1000000000000)
set_option maxHeartbeats 2000000 in
theorem ypercent_any (a : ByteArray) (l : List UInt8) (w : World) (ha : AllD a) (hl : l.length ≤ 4) (hd : ∀ c ∈ l, dgB c.toNat = true) (sa : a.size < 9000000000000000000) :
    Calls Tryz.prog 66 #[.string a, .string (tx l)] w fun e w' => e = .returned (.tuple #[.int .i64 (rtV (10000 * fg a + fig 0 (pad4 l)) : Nat), .bool (rtB (10000 * fg a + fig 0 (pad4 l)))]) ∧ w = w' := by
  have K1 := hid (fun w => ynumber_any a 1000000000000 w (by omega) ha sa : ∀ w, Calls Tryz.prog 67 #[.string a, .int .i64 1000000000000] w fun e w' => e = .returned (.tuple #[.int .i64 (nV 1000000000000 a : Nat), .bool (nB 1000000000000 a)]) ∧ w = w')
  have h9 := fig_4 hl hd
  have K2 := hid (fun w => ynumber_any (tx (pad4 l)) 9999 w (by omega) (pad_dig hd) (by rw [tx_sz]; unfold pad4; simp) : ∀ w, Calls Tryz.prog 67 #[.string (tx (pad4 l)), .int .i64 9999] w fun e w' => e = .returned (.tuple #[.int .i64 (nV 9999 (tx (pad4 l)) : Nat), .bool (nB 9999 (tx (pad4 l)))]) ∧ w = w')
  have e2 : nV 9999 (tx (pad4 l)) = fig 0 (pad4 l) := by unfold nV; rw [fg_tx, if_pos h9]
  have e3 : nB 9999 (tx (pad4 l)) = true := by unfold nB; rw [fg_tx, decide_eq_true h9]
  rw [e2, e3] at K2
  clear e2 e3 hd
  unfold nV nB at K1
  generalize fg a = V at *
  have HP := hid (rfl : pad4 l = pad4 l)
  generalize fig 0 (pad4 l) = C at *
  generalize hT : tx (pad4 l) = T at K2
  have HT := hid hT
  clear hT HP
  go_enter Tryz.func66, Tryz.ntmps66
  go_wp2_with fail
  go_loopg [1] (5 - l.length) (fun g pv wr => ∃ (p : ByteArray) (m : List UInt8), p = tx m ∧ m.length ≤ 4 ∧ p.size = m.length ∧ g = 5 - m.length ∧ pv = .string p ∧ w = wr ∧ Hid (tx (pad4 m) = T))
  case atStart => exact ⟨_, l, rfl, hl, tx_sz l, rfl, rfl, rfl, HT⟩
  case round =>
    obtain ⟨p, m, hm, hml, hz, rfl, rfl, rfl, hr⟩ := hrel
    have HM := hid hm
    clear hm
    by_cases q : m.length < 4
    · have q' : (p.size : Int) < 4 := by omega
      have NX := hid (by rw [pad_more q]; exact hr.out : tx (pad4 (m ++ [48])) = T)
      have NP := hid (by rw [HM.out]; exact tx_cat m [48] : p ++ ⟨#[48]⟩ = tx (m ++ [48]))
      go_wp2_with fail
      go_roundg (5 - (m.length + 1))
      case measure => omega
      case rel => exact ⟨_, m ++ [48], NP.out, by simp; omega, by rw [NP.out, tx_sz], by simp, rfl, rfl, NX⟩
    · have q' : ¬ (p.size : Int) < 4 := by omega
      have e : p = T := by rw [HM.out, ← hr.out, pad_done (by omega)]
      subst e
      clear hr HM
      by_cases z : 10000 * V + C ≤ 1000000000000
      · have F1 := hid (show rtV (10000 * V + C) = 10000 * V + C from if_pos z)
        have F2 := hid (show rtB (10000 * V + C) = true from decide_eq_true z)
        rw [if_pos (by omega), decide_eq_true (by omega)] at K1
        have z1 : ¬ (100000000 : Int) < (V : Int) := by omega
        have z2 : ¬ (1000000000000 : Int) < 10000 * (V : Int) + (C : Int) := by omega
        go_wp2_with (first | (go_at_call 67; with_reducible refine Calls.mono (K1.out _) ?_; rintro e w1 ⟨rfl, rfl⟩) | (go_at_call 67; with_reducible refine Calls.mono (K2.out _) ?_; rintro e w1 ⟨rfl, rfl⟩))
        go_ret2
        exact ⟨by rw [F1.out, F2.out]; congr 1, rfl⟩
      · have F1 := hid (show rtV (10000 * V + C) = 0 from if_neg z)
        have F2 := hid (show rtB (10000 * V + C) = false from decide_eq_false z)
        by_cases y : V ≤ 1000000000000
        · rw [if_pos y, decide_eq_true y] at K1
          by_cases x : V ≤ 100000000
          · have z1 : ¬ (100000000 : Int) < (V : Int) := by omega
            have z2 : (1000000000000 : Int) < 10000 * (V : Int) + (C : Int) := by omega
            go_wp2_with (first | (go_at_call 67; with_reducible refine Calls.mono (K1.out _) ?_; rintro e w1 ⟨rfl, rfl⟩) | (go_at_call 67; with_reducible refine Calls.mono (K2.out _) ?_; rintro e w1 ⟨rfl, rfl⟩))
            go_ret2
            exact ⟨by rw [F1.out, F2.out]; rfl, rfl⟩
          · have z1 : (100000000 : Int) < (V : Int) := by omega
            go_wp2_with (first | (go_at_call 67; with_reducible refine Calls.mono (K1.out _) ?_; rintro e w1 ⟨rfl, rfl⟩) | (go_at_call 67; with_reducible refine Calls.mono (K2.out _) ?_; rintro e w1 ⟨rfl, rfl⟩))
            go_ret2
            exact ⟨by rw [F1.out, F2.out]; rfl, rfl⟩
        · rw [if_neg y, decide_eq_false y] at K1
          go_wp2_with (first | (go_at_call 67; with_reducible refine Calls.mono (K1.out _) ?_; rintro e w1 ⟨rfl, rfl⟩) | (go_at_call 67; with_reducible refine Calls.mono (K2.out _) ?_; rintro e w1 ⟨rfl, rfl⟩))
          go_ret2
          exact ⟨by rw [F1.out, F2.out]; rfl, rfl⟩
end Go.Proofs.YtiikdmnmfmfpdaaGreatDoor
