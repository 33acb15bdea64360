/- The walks over package page's Good. -/
import Derived.Test.YtfedcghkohfhlaaPa
import Derived.Deep.DeepCutAuto
namespace Go.Proofs.Ytfedcghkohfhlaa
open Go.RowKit
set_option linter.unusedVariables false
set_option linter.unusedSimpArgs false

theorem kOk_of {ks : List ByteArray} {k : Nat} (h1 : 1 ≤ (kAt ks k).size) (h2 : (kAt ks k).size ≤ 40) (h3 : k = 0 ∨ ltS (kAt ks (k - 1)) (kAt ks k) = true) : kOk ks k = true := by
  unfold kOk
  rw [decide_eq_true h1, decide_eq_true h2]
  rcases h3 with h | h
  · rw [decide_eq_true h]; rfl
  · rw [h, Bool.or_true]; rfl
theorem kOk_no1 {ks : List ByteArray} {k : Nat} (h : (kAt ks k).size < 1) : kOk ks k = false := by unfold kOk; rw [decide_eq_false (by omega)]; rfl
theorem kOk_no2 {ks : List ByteArray} {k : Nat} (h : 40 < (kAt ks k).size) : kOk ks k = false := by unfold kOk; rw [decide_eq_false (show ¬ (kAt ks k).size ≤ 40 by omega), Bool.and_false]; rfl
theorem kOk_no3 {ks : List ByteArray} {k : Nat} (h0 : 0 < k) (h : ltS (kAt ks (k - 1)) (kAt ks k) = false) : kOk ks k = false := by unfold kOk; rw [h, decide_eq_false (show ¬ k = 0 by omega), Bool.or_false, Bool.and_false]

set_option maxRecDepth 100000 in
set_option maxHeartbeats 4000000 in
theorem goodKeys_any (a : Option Addr) (n cap : Nat) (ks : List ByteArray) (w : World) (h : Sl w a n cap (sv ks)) (hn : n ≤ 100000) (hs : tot ks ≤ 100000) :
    Calls Try.prog 36 #[.slice a n cap] w fun e w' => e = .returned (.bool (keysB ks)) ∧ w = w' := by
  have hl := h.slen
  rcases Nat.eq_zero_or_pos n with q | q
  · subst q
    have R : Hid (keysB ks = true) := keysB_true (fun j hj => by omega)
    clear h
    go_enter Try.func36, Try.ntmps36
    go_wp2_with fail
    go_rounds 1
    go_ret
    exact ⟨retV (by rw [R.out]; rfl), rfl⟩
  obtain ⟨b, o, rfl, _⟩ := h.at q
  have C : Hid (∀ i, i < n → w.cell? ⟨b, o + i, none⟩ = some (.string (kAt ks i))) := fun i hi => h.str hi
  have HL : Hid _ := hl
  have hn' : (n : Int) ≤ 100000 := by omega
  clear h hl
  go_enter Try.func36, Try.ntmps36
  go_wp2_with fail
  go_loopg [7] n (fun g iv wr => ∃ k : Nat, k ≤ n ∧ g = n - k ∧ iv = .int .i64 (k : Nat) ∧ wr = w ∧ Hid (∀ j, j < k → kOk ks j = true))
  case atStart => exact ⟨0, Nat.zero_le _, rfl, rfl, rfl, fun j hj => by omega⟩
  case round =>
    obtain ⟨k, hk, rfl, rfl, rfl, hR⟩ := hrel
    by_cases c : k < n
    · have c' : (k : Int) < (n : Int) := by omega
      have e1 := C.out k c
      have sz := kAt_le (ss := ks) k
      by_cases s1 : (kAt ks k).size < 1
      · have R : Hid (keysB ks = false) := keysB_false (by rw [HL.out]; exact c) (kOk_no1 s1)
        generalize kAt ks k = s at *
        have s1' : (s.size : Int) < 1 := by omega
        go_wp2
        go_ret
        exact ⟨retV (by rw [R.out]; rfl), rfl⟩
      have s1' : ¬ ((kAt ks k).size : Int) < 1 := by omega
      by_cases s2 : 40 < (kAt ks k).size
      · have R : Hid (keysB ks = false) := keysB_false (by rw [HL.out]; exact c) (kOk_no2 s2)
        generalize kAt ks k = s at *
        have s2' : (40 : Int) < (s.size : Int) := by omega
        go_wp2
        go_ret
        exact ⟨retV (by rw [R.out]; rfl), rfl⟩
      have s2' : ¬ (40 : Int) < ((kAt ks k).size : Int) := by omega
      by_cases k0 : k = 0
      · have R : Hid (∀ j, j < k + 1 → kOk ks j = true) := fun j hj => by
          obtain rfl : j = k := by omega
          exact kOk_of (by omega) (by omega) (Or.inl k0)
        have k0' : ¬ (0 : Int) < (k : Int) := by omega
        have K0 : Hid _ := k0
        generalize kAt ks k = s at *
        clear k0
        go_wp2
        go_roundg (n - (k + 1))
        case measure => omega
        case rel => exact ⟨k + 1, by omega, rfl, by go_num, rfl, R.out⟩
      have k0' : (0 : Int) < (k : Int) := by omega
      obtain ⟨m, hm⟩ : ∃ m : Nat, m = k - 1 := ⟨_, rfl⟩
      have em : (k : Int) - 1 = (m : Int) := by omega
      have e2 := C.out m (by omega)
      have m' : (m : Int) < (n : Int) := by omega
      have L : Hid _ := toL_eq (kAt ks m) (kAt ks k)
      cases lt : Op.bytesLess (kAt ks m).toList (kAt ks k).toList with
      | true =>
        have R : Hid (∀ j, j < k + 1 → kOk ks j = true) := fun j hj => by
          rcases Nat.lt_or_ge j k with q | q
          · exact hR.out j q
          · obtain rfl : j = k := by omega
            exact kOk_of (by omega) (by omega) (Or.inr (by rw [← hm]; exact lt))
        generalize kAt ks k = s at *
        generalize kAt ks m = t at *
        have M : Hid _ := hm
        clear hm
        go_wp2
        go_roundg (n - (k + 1))
        case measure => omega
        case rel => exact ⟨k + 1, by omega, rfl, by go_num, rfl, R.out⟩
      | false =>
        have R : Hid (keysB ks = false) := keysB_false (by rw [HL.out]; exact c) (kOk_no3 (by omega) (by rw [← hm]; exact lt))
        generalize kAt ks k = s at *
        generalize kAt ks m = t at *
        have M : Hid _ := hm
        clear hm
        go_wp2
        go_ret
        exact ⟨retV (by rw [R.out]; rfl), rfl⟩
    · obtain rfl : n = k := by omega
      have R : Hid (keysB ks = true) := keysB_true (fun j hj => hR.out j (by have := HL.out; omega))
      go_wp2
      go_ret
      exact ⟨retV (by rw [R.out]; rfl), rfl⟩

theorem longV_any (s : ByteArray) (w : World) (hs : s.size ≤ 100000) : Calls Try.prog 60 #[.string s] w fun e w' => e = .returned (.bool (decide (400 < s.size))) ∧ w = w' := by
  by_cases c : 400 < s.size
  · have c' : (400 : Int) < (s.size : Int) := by omega
    rw [decide_eq_true c]
    go_enter Try.func60, Try.ntmps60
    go_wp2
    go_ret
    exact ⟨by simp, rfl⟩
  · have c' : ¬ (400 : Int) < (s.size : Int) := by omega
    rw [decide_eq_false c]
    go_enter Try.func60, Try.ntmps60
    go_wp2
    go_ret
    exact ⟨by simp [c'], rfl⟩

set_option maxRecDepth 100000 in
set_option maxHeartbeats 4000000 in
theorem IndexFunc_any (a : Option Addr) (n cap : Nat) (vs : List ByteArray) (w : World) (h : Sl w a n cap (sv vs)) (hn : n ≤ 100000) (hs : tot vs ≤ 100000) :
    Calls Try.prog 71 #[.slice a n cap, .func (.func 60) #[] #[]] w fun e w' => (∃ i : Int, e = .returned (.int .i64 i) ∧ decide (0 ≤ i) = !(valsB vs)) ∧ w = w' := by
  have hl := h.slen
  rcases Nat.eq_zero_or_pos n with q | q
  · subst q
    have R : Hid (valsB vs = true) := valsB_true (fun j hj => by omega)
    clear h
    go_enter Try.func71, Try.ntmps71
    go_wp2_with fail
    go_rounds 1
    go_ret
    exact ⟨⟨-1, rfl, by rw [R.out]; rfl⟩, rfl⟩
  obtain ⟨b, o, rfl, _⟩ := h.at q
  have C : Hid (∀ i, i < n → w.cell? ⟨b, o + i, none⟩ = some (.string (kAt vs i))) := fun i hi => h.str hi
  have HL : Hid _ := hl
  have hn' : (n : Int) ≤ 100000 := by omega
  clear h hl
  go_enter Try.func71, Try.ntmps71
  go_wp2_with fail
  go_loopg [8] n (fun g iv wr => ∃ k : Nat, k ≤ n ∧ g = n - k ∧ iv = .int .i64 (k : Nat) ∧ wr = w ∧ Hid (∀ j, j < k → (kAt vs j).size ≤ 400))
  case atStart => exact ⟨0, Nat.zero_le _, rfl, rfl, rfl, fun j hj => by omega⟩
  case round =>
    obtain ⟨k, hk, rfl, rfl, rfl, hR⟩ := hrel
    by_cases c : k < n
    · have c' : (k : Int) < (n : Int) := by omega
      have e1 := C.out k c
      have K : Hid _ := longV_any (kAt vs k) wr (Nat.le_trans (kAt_le (ss := vs) k) hs)
      by_cases s1 : 400 < (kAt vs k).size
      · have R : Hid (valsB vs = false) := valsB_false (by rw [HL.out]; exact c) s1
        rw [decide_eq_true s1] at K
        generalize kAt vs k = s at *
        go_wp2_with (go_at_call 60; refine Calls.mono K.out ?_; rintro e w1 ⟨rfl, rfl⟩)
        go_ret
        exact ⟨⟨k, rfl, by rw [R.out]; simp⟩, rfl⟩
      · have R : Hid (∀ j, j < k + 1 → (kAt vs j).size ≤ 400) := fun j hj => by
          rcases Nat.lt_or_ge j k with q | q
          · exact hR.out j q
          · obtain rfl : j = k := by omega
            omega
        rw [decide_eq_false s1] at K
        generalize kAt vs k = s at *
        go_wp2_with (go_at_call 60; refine Calls.mono K.out ?_; rintro e w1 ⟨rfl, rfl⟩)
        go_roundg (n - (k + 1))
        case measure => omega
        case rel => exact ⟨k + 1, by omega, rfl, by go_num, rfl, R.out⟩
    · obtain rfl : n = k := by omega
      have R : Hid (valsB vs = true) := valsB_true (fun j hj => hR.out j (by have := HL.out; omega))
      go_wp2
      go_ret
      exact ⟨⟨-1, rfl, by rw [R.out]; rfl⟩, rfl⟩

theorem ContainsFunc_any (a : Option Addr) (n cap : Nat) (vs : List ByteArray) (w : World) (h : Sl w a n cap (sv vs)) (hn : n ≤ 100000) (hs : tot vs ≤ 100000) :
    Calls Try.prog 59 #[.slice a n cap, .func (.func 60) #[] #[]] w fun e w' => e = .returned (.bool (!(valsB vs))) ∧ w = w' := by
  have K : Hid _ := IndexFunc_any a n cap vs w h hn hs
  clear h
  go_enter Try.func59, Try.ntmps59
  go_wp2_with (go_at_call 71; refine Calls.mono K.out ?_; rintro e w1 ⟨⟨i, rfl, hi⟩, rfl⟩)
  go_ret
  exact ⟨retV (by rw [← hi]; rfl), rfl⟩
theorem goodVals_any (a : Option Addr) (n cap : Nat) (vs : List ByteArray) (w : World) (h : Sl w a n cap (sv vs)) (hn : n ≤ 100000) (hs : tot vs ≤ 100000) :
    Calls Try.prog 37 #[.slice a n cap] w fun e w' => e = .returned (.bool (valsB vs)) ∧ w = w' := by
  have K : Hid _ := ContainsFunc_any a n cap vs w h hn hs
  clear h
  go_enter Try.func37, Try.ntmps37
  go_wp2_with (go_at_call 59; refine Calls.mono K.out ?_; rintro e w1 ⟨rfl, rfl⟩)
  go_ret
  exact ⟨by simp, rfl⟩

set_option maxRecDepth 100000 in
set_option maxHeartbeats 4000000 in
theorem Index_any (a : Option Addr) (n cap : Nat) (is : List Nat) (w : World) (h : Sl w a n cap (kv is)) (hn : n ≤ 100000) :
    Calls Try.prog 61 #[.slice a n cap, .int .u64 0] w fun e w' => (∃ i : Int, e = .returned (.int .i64 i) ∧ decide (0 ≤ i) = !(kidsB is)) ∧ w = w' := by
  have hl := h.klen
  rcases Nat.eq_zero_or_pos n with q | q
  · subst q
    have R : Hid (kidsB is = true) := kidsB_true (fun j hj => by omega)
    clear h
    go_enter Try.func61, Try.ntmps61
    go_wp2_with fail
    go_rounds 1
    go_ret
    exact ⟨⟨-1, rfl, by rw [R.out]; rfl⟩, rfl⟩
  obtain ⟨b, o, rfl, _⟩ := h.at q
  have C : Hid (∀ i, i < n → w.cell? ⟨b, o + i, none⟩ = some (.int .u64 ((is.getD i 0 : Nat) : Int))) := fun i hi => h.num hi
  have HL : Hid _ := hl
  have hn' : (n : Int) ≤ 100000 := by omega
  clear h hl
  go_enter Try.func61, Try.ntmps61
  go_wp2_with fail
  go_loopg [8] n (fun g iv wr => ∃ k : Nat, k ≤ n ∧ g = n - k ∧ iv = .int .i64 (k : Nat) ∧ wr = w ∧ Hid (∀ j, j < k → is.getD j 0 ≠ 0))
  case atStart => exact ⟨0, Nat.zero_le _, rfl, rfl, rfl, fun j hj => by omega⟩
  case round =>
    obtain ⟨k, hk, rfl, rfl, rfl, hR⟩ := hrel
    by_cases c : k < n
    · have c' : (k : Int) < (n : Int) := by omega
      have e1 := C.out k c
      obtain ⟨x, hx⟩ : ∃ x : Nat, x = is.getD k 0 := ⟨_, rfl⟩
      rw [← hx] at e1
      by_cases s1 : x = 0
      · have R : Hid (kidsB is = false) := kidsB_false (by rw [HL.out]; exact c) (by rw [← hx]; exact s1)
        subst s1
        have X : Hid _ := hx
        clear hx
        go_wp2
        go_ret
        exact ⟨⟨k, rfl, by rw [R.out]; simp⟩, rfl⟩
      · have R : Hid (∀ j, j < k + 1 → is.getD j 0 ≠ 0) := fun j hj => by
          rcases Nat.lt_or_ge j k with q | q
          · exact hR.out j q
          · obtain rfl : j = k := by omega
            rw [← hx]; exact s1
        have X : Hid _ := hx
        have s1' : ((0 : Int) == (x : Int)) = false := beq_eq_false_iff_ne.2 (by omega)
        clear hx
        go_wp2
        go_roundg (n - (k + 1))
        case measure => omega
        case rel => exact ⟨k + 1, by omega, rfl, by go_num, rfl, R.out⟩
    · obtain rfl : n = k := by omega
      have R : Hid (kidsB is = true) := kidsB_true (fun j hj => hR.out j (by have := HL.out; omega))
      go_wp2
      go_ret
      exact ⟨⟨-1, rfl, by rw [R.out]; rfl⟩, rfl⟩
theorem Contains_any (a : Option Addr) (n cap : Nat) (is : List Nat) (w : World) (h : Sl w a n cap (kv is)) (hn : n ≤ 100000) :
    Calls Try.prog 38 #[.slice a n cap, .int .u64 0] w fun e w' => e = .returned (.bool (!(kidsB is))) ∧ w = w' := by
  have K : Hid _ := Index_any a n cap is w h hn
  clear h
  go_enter Try.func38, Try.ntmps38
  go_wp2_with (go_at_call 61; refine Calls.mono K.out ?_; rintro e w1 ⟨⟨i, rfl, hi⟩, rfl⟩)
  go_ret
  exact ⟨retV (by rw [← hi]; rfl), rfl⟩

end Go.Proofs.Ytfedcghkohfhlaa
