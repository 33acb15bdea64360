/- The walks over package lex: blank, letter, digit, digits. -/
import Derived.Test.YtobolipjgkabhaaDoorL1
import Derived.BigQuiet
namespace Go.Proofs.YtobolipjgkabhaaDoor
open Go.RowKit
set_option linter.unusedVariables false
set_option linter.unusedSimpArgs false

def bt (s : ByteArray) (k : Nat) : UInt8 := s.data.toList.getD k 0
theorem tl_cons {s : ByteArray} {k : Nat} (h : k < s.size) : tl s k = bt s k :: tl s (k + 1) := by
  have h' : k < s.data.toList.length := by simpa using h
  unfold tl bt
  rw [List.drop_eq_getElem_cons h', List.getD_eq_getElem?_getD, List.getElem?_eq_getElem h']
  rfl
theorem tl_nil {s : ByteArray} {k : Nat} (h : s.size ≤ k) : tl s k = [] := by
  unfold tl
  rw [List.drop_eq_nil_iff]
  simpa using h
theorem bt_at {s : ByteArray} {k : Nat} (h : k < s.size) : s[k]'h = bt s k := by
  have h' : k < s.data.toList.length := by simpa using h
  unfold bt
  rw [List.getD_eq_getElem?_getD, List.getElem?_eq_getElem h']
  rfl

def dgB (c : Int) : Bool := decide (48 ≤ c) && decide (c ≤ 57)
def leB (c : Int) : Bool := decide (97 ≤ c) && decide (c ≤ 122)
def blB (c : Int) : Bool := c == 32 || c == 9 || c == 10 || c == 13
theorem isDig_is (c : UInt8) : isDig c = dgB c.toNat := rfl
theorem isLet_is (c : UInt8) : isLet c = leB c.toNat := rfl
theorem isBl_is (c : UInt8) : isBl c = blB c.toNat := rfl
theorem dgB_no {c : Int} (h : dgB c = false) : c < 48 ∨ (48 ≤ c ∧ 57 < c) := by
  unfold dgB at h
  simp at h
  omega
theorem dgB_of {c : Int} (h : dgB c = true) : 48 ≤ c ∧ c ≤ 57 := by unfold dgB at h; simpa using h
theorem leB_no {c : Int} (h : leB c = false) : c < 97 ∨ (97 ≤ c ∧ 122 < c) := by
  unfold leB at h
  simp at h
  omega
theorem leB_of {c : Int} (h : leB c = true) : 97 ≤ c ∧ c ≤ 122 := by unfold leB at h; simpa using h

theorem digit_any (c : Int) (w : World) : Calls Tryd.prog 14 #[.int .u8 c] w fun e w' => e = .returned (.bool (dgB c)) ∧ w = w' := by
  go_enter Tryd.func14, Tryd.ntmps14
  go_wp2_with fail
  all_goals go_ret
  all_goals refine ⟨congrArg (fun b => Ending.returned (Value.bool b)) ?_, rfl⟩
  all_goals (unfold dgB; simp_all <;> omega)
theorem letter_any (c : Int) (w : World) : Calls Tryd.prog 13 #[.int .u8 c] w fun e w' => e = .returned (.bool (leB c)) ∧ w = w' := by
  go_enter Tryd.func13, Tryd.ntmps13
  go_wp2_with fail
  all_goals go_ret
  all_goals refine ⟨congrArg (fun b => Ending.returned (Value.bool b)) ?_, rfl⟩
  all_goals (unfold leB; simp_all <;> omega)
theorem blank_any (c : Int) (w : World) : Calls Tryd.prog 12 #[.int .u8 c] w fun e w' => e = .returned (.bool (blB c)) ∧ w = w' := by
  go_enter Tryd.func12, Tryd.ntmps12
  go_wp2_with fail
  all_goals go_ret
  all_goals refine ⟨congrArg (fun b => Ending.returned (Value.bool b)) ?_, rfl⟩
  all_goals (unfold blB; simp_all)

theorem runD_cons {s : ByteArray} {k : Nat} (h : k < s.size) : runD (tl s k) = if dgB (bt s k).toNat then runD (tl s (k + 1)) + 1 else 0 := by
  rw [tl_cons h]
  rfl
theorem runD_le (l : List UInt8) : runD l ≤ l.length := by
  induction l with
  | nil => exact Nat.le_refl _
  | cons c l ih =>
    unfold runD
    split
    · simp; omega
    · simp
theorem tl_len (s : ByteArray) (k : Nat) : (tl s k).length = s.size - k := by unfold tl; simp

/-- where the row of digits ends -/
def dEnd (s : ByteArray) (a : Nat) : Nat := a + runD (tl s a)
theorem dEnd_le {s : ByteArray} {a : Nat} (h : a ≤ s.size) : dEnd s a ≤ s.size := by
  have := runD_le (tl s a)
  rw [tl_len] at this
  unfold dEnd
  omega

set_option maxHeartbeats 1000000 in
theorem digits_any (s : ByteArray) (a : Nat) (w : World) (ha : a ≤ s.size) (hs : s.size < 9223372036854775807) :
    Calls Tryd.prog 25 #[.string s, .int .i64 (a : Nat)] w fun e w' => e = .returned (.int .i64 (dEnd s a : Nat)) ∧ Below w.heap.size w w' := by
  go_enter Tryd.func25, Tryd.ntmps25
  go_wp2_with fail
  go_loopg [1] (s.size + 1 - a) (fun g iv wr => ∃ k : Nat, k ≤ s.size ∧ g = s.size + 1 - k ∧ iv = .int .i64 (k : Nat) ∧ Below w.heap.size w wr ∧ Hid (k + runD (tl s k) = dEnd s a))
  case atStart => exact ⟨a, ha, rfl, rfl, Below.refl _ _, rfl⟩
  case round =>
    obtain ⟨k, hk, rfl, rfl, hb, hr⟩ := hrel
    by_cases q : k < s.size
    · have q' : (k : Int) < (s.size : Int) := by omega
      have xi := congrArg (fun c : UInt8 => (c.toNat : Int)) (bt_at q)
      cases d : dgB (bt s k).toNat
      · have HX : Hid _ := (by rw [← hr.out, runD_cons q, d]; rfl : dEnd s a = k)
        go_wp2_with (go_at_call 14; refine (digit_any _ _).mono ?_; rintro e w5 ⟨rfl, rfl⟩)
        go_ret
        exact ⟨by rw [HX.out]; rfl, hb⟩
      · have HX : Hid _ := (by rw [← hr.out, runD_cons q, d, if_pos rfl]; omega : k + 1 + runD (tl s (k + 1)) = dEnd s a)
        go_wp2_with (go_at_call 14; refine (digit_any _ _).mono ?_; rintro e w5 ⟨rfl, rfl⟩)
        go_roundg (s.size + 1 - (k + 1))
        case measure => omega
        case rel => exact ⟨k + 1, by omega, rfl, by rw [Int.natCast_add]; rfl, hb, HX⟩
    · have HX : Hid _ := (by rw [← hr.out, tl_nil (by omega)]; rfl : dEnd s a = k)
      have q' : ¬ (k : Int) < (s.size : Int) := by omega
      go_wp2_with fail
      go_ret
      exact ⟨by rw [HX.out]; rfl, hb⟩
end Go.Proofs.YtobolipjgkabhaaDoor
