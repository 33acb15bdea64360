/- The walks over package page: sum, crowded, middle. -/
import Derived.Test.YtfedcghkohfhlaaS4
import Derived.Test.YtfedcghkohfhlaaPd
import Derived.Deep.QuietTactic
import Derived.BigQuiet
namespace Go.Proofs.Ytfedcghkohfhlaa
open Go.RowKit
set_option linter.unusedVariables false
set_option linter.unusedSimpArgs false

theorem intInfo : (Try.prog.info? 3).map (fun i => (i.zero, i.size, i.bytes)) = some (some (.int .i64 0), 1, 8) := by kernel_rfl

set_option maxRecDepth 100000 in
set_option maxHeartbeats 4000000 in
theorem sum_any (b o n cap : Nat) (l : List Nat) (w : World) (h : Sl w (some ⟨b, o, none⟩) n cap (iv l)) (hn : n ≤ 100000) (hs : sumL l ≤ 1000000) :
    Calls Try.prog 69 #[.slice (some ⟨b, o, none⟩) n cap] w fun e w' => e = .returned (.int .i64 (sumL l : Nat)) ∧ w = w' := by
  have hl : l.length = n := by rw [← iv_len]; exact h.len
  have C : Hid (∀ i, i < n → w.cell? ⟨b, o + i, none⟩ = some (.int .i64 ((l.getD i 0 : Nat) : Int))) := fun i hi => h.int hi
  have HL : Hid _ := hl
  have hn' : (n : Int) ≤ 100000 := by omega
  clear h hl
  go_enter Try.func69, Try.ntmps69
  go_wp2_with fail
  go_loopg [3, 8] n (fun g sv' iv' wr => ∃ k s : Nat, k ≤ n ∧ g = n - k ∧ iv' = .int .i64 (k : Nat) ∧ sv' = .int .i64 (s : Nat) ∧ s ≤ 1000000 ∧ wr = w ∧ Hid (s = sumL (l.take k)))
  case atStart => exact ⟨0, 0, Nat.zero_le _, rfl, rfl, rfl, by omega, rfl, rfl⟩
  case round =>
    obtain ⟨k, s, hk, rfl, rfl, rfl, hs0, rfl, hS⟩ := hrel
    by_cases c : k < n
    · have c' : (k : Int) < (n : Int) := by omega
      have e1 := C.out k c
      have SN : Hid (sumL (l.take (k + 1)) = s + l.getD k 0) := by show _ = _; rw [sumL_snoc (by have := HL.out; omega), hS.out]
      have SB : s + l.getD k 0 ≤ 1000000 := by have := SN.out; have := sumL_split l (k + 1); omega
      generalize l.getD k 0 = x at *
      go_wp2
      go_roundg (n - (k + 1))
      case measure => omega
      case rel => exact ⟨k + 1, s + x, by omega, rfl, by go_num, by go_num, SB, rfl, SN.out.symm⟩
    · obtain rfl : n = k := by omega
      have E : Hid (s = sumL l) := by show _ = _; rw [hS.out, List.take_of_length_le (by have := HL.out; omega)]
      go_wp2
      go_ret
      exact ⟨retV (by rw [E.out]; rfl), rfl⟩

theorem crowded_any (items bytes : Nat) (w : World) (hi : items ≤ 100000) (hb : bytes ≤ 1000000) :
    Calls Try.prog 70 #[.int .i64 (items : Nat), .int .i64 (bytes : Nat)] w fun e w' => e = .returned (.bool (crB items bytes)) ∧ Below w.heap.size w w' := by
  by_cases c : 1 < items
  · have c' : (1 : Int) < (items : Int) := by omega
    have K : Hid _ := head_any true items w hi
    have hle : Hid (hd items ≤ 11) := hd_le hi
    by_cases c2 : 900 < hd items + bytes
    · have R : Hid (crB items bytes = true) := by show _ = _; unfold crB; rw [decide_eq_true c, decide_eq_true c2]; rfl
      go_enter Try.func70, Try.ntmps70
      go_wp2_with fail
      refine Calls.mono K.out ?_
      rintro e w1 ⟨⟨v1, rfl, o1⟩, b1⟩
      obtain ⟨a1, cap1, rfl, y1, _, _⟩ := o1.by
      obtain ⟨hl, hhl⟩ : ∃ hl, hl = (encH true items).length := ⟨_, rfl⟩
      rw [← hhl]
      have c2' : (900 : Int) < (hl : Int) + (bytes : Int) := by rw [hhl]; have : hd items = (encH true items).length := rfl; omega
      have hlb : hl ≤ 11 := by have := hle.out; rw [hhl]; exact this
      have HH : Hid _ := hhl
      clear hhl o1 y1
      go_wp2
      go_ret
      exact ⟨retV (by rw [R.out]; rfl), b1⟩
    · have R : Hid (crB items bytes = false) := by show _ = _; unfold crB; rw [decide_eq_false c2, Bool.and_false]
      go_enter Try.func70, Try.ntmps70
      go_wp2_with fail
      refine Calls.mono K.out ?_
      rintro e w1 ⟨⟨v1, rfl, o1⟩, b1⟩
      obtain ⟨a1, cap1, rfl, y1, _, _⟩ := o1.by
      obtain ⟨hl, hhl⟩ : ∃ hl, hl = (encH true items).length := ⟨_, rfl⟩
      rw [← hhl]
      have c2' : ¬ (900 : Int) < (hl : Int) + (bytes : Int) := by rw [hhl]; have : hd items = (encH true items).length := rfl; omega
      have hlb : hl ≤ 11 := by have := hle.out; rw [hhl]; exact this
      have HH : Hid _ := hhl
      clear hhl o1 y1
      go_wp2
      go_ret
      exact ⟨retV (by rw [R.out]; simp [c2']), b1⟩
  · have c' : ¬ (1 : Int) < (items : Int) := by omega
    have R : Hid (crB items bytes = false) := by show _ = _; unfold crB; rw [decide_eq_false c]; rfl
    go_enter Try.func70, Try.ntmps70
    go_wp2
    go_ret
    exact ⟨retV (by rw [R.out]; rfl), Below.refl _ _⟩

end Go.Proofs.Ytfedcghkohfhlaa
