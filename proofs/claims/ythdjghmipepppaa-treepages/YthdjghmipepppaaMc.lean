/- The walks over package page's Good. The walks over package page's Good, on; head, item. The walks over package page: values, Encode, Bytes. The walks over package page: Encode, Bytes. The walks over package page: Encode of a branch; Bytes. The walks over publicanref4: Good. The walks over the law's own functions: great, same. -/
import Derived.Test.YthdjghmipepppaaMb
import Derived.Deep.DeepCutAuto
import Derived.Deep.QuietTactic
import Derived.BigQuiet
import Derived.WalkSmall
namespace Go.Proofs.Ythdjghmipepppaa
open Go.RowKit
set_option linter.unusedVariables false
set_option linter.unusedSimpArgs false

theorem kOk_of {ks : List ByteArray} {k : Nat} (h1 : 1 ≤ (kAt ks k).size) (h2 : (kAt ks k).size ≤ 40) (h3 : k = 0 ∨ ltS (kAt ks (k - 1)) (kAt ks k) = true) : kOk ks k = true := by
  unfold kOk
  rw [decide_eq_true h1, decide_eq_true h2]
  rcases h3 with h | h
  · rw [decide_eq_true h]; rfl
  · rw [h, Bool.or_true]; rfl
theorem kOk_no1 {ks : List ByteArray} {k : Nat} (h : (kAt ks k).size < 1) : kOk ks k = false := by unfold kOk; rw [decide_eq_false (by omega)]; rfl
theorem kOk_no2 {ks : List ByteArray} {k : Nat} (h : 40 < (kAt ks k).size) : kOk ks k = false := by unfold kOk; rw [decide_eq_false (show ¬ (kAt ks k).size ≤ 40 by omega), Bool.and_false]; rfl
theorem kOk_no3 {ks : List ByteArray} {k : Nat} (h0 : 0 < k) (h : ltS (kAt ks (k - 1)) (kAt ks k) = false) : kOk ks k = false := by unfold kOk; rw [h, decide_eq_false (show ¬ k = 0 by omega), Bool.or_false, Bool.and_false]

set_option maxRecDepth 100000 in
set_option maxHeartbeats 4000000 in
theorem goodKeys_any (a : Option Addr) (n cap : Nat) (ks : List ByteArray) (w : World) (h : Sl w a n cap (sv ks)) (hn : n ≤ 100000) (hs : tot ks ≤ 100000) :
    Calls Try.prog 57 #[.slice a n cap] w fun e w' => e = .returned (.bool (keysB ks)) ∧ w = w' := by
  have hl := h.slen
  rcases Nat.eq_zero_or_pos n with q | q
  · subst q
    have R : Hid (keysB ks = true) := keysB_true (fun j hj => by omega)
    clear h
    go_enter Try.func57, Try.ntmps57
    go_wp2_with fail
    go_rounds 1
    go_ret
    exact ⟨retV (by rw [R.out]; rfl), rfl⟩
  obtain ⟨b, o, rfl, _⟩ := h.at q
  have C : Hid (∀ i, i < n → w.cell? ⟨b, o + i, none⟩ = some (.string (kAt ks i))) := fun i hi => h.str hi
  have HL : Hid _ := hl
  have hn' : (n : Int) ≤ 100000 := by omega
  clear h hl
  go_enter Try.func57, Try.ntmps57
  go_wp2_with fail
  go_loopg [7] n (fun g iv wr => ∃ k : Nat, k ≤ n ∧ g = n - k ∧ iv = .int .i64 (k : Nat) ∧ wr = w ∧ Hid (∀ j, j < k → kOk ks j = true))
  case atStart => exact ⟨0, Nat.zero_le _, rfl, rfl, rfl, fun j hj => by omega⟩
  case round =>
    obtain ⟨k, hk, rfl, rfl, rfl, hR⟩ := hrel
    by_cases c : k < n
    · have c' : (k : Int) < (n : Int) := by omega
      have e1 := C.out k c
      have sz := kAt_le (ss := ks) k
      by_cases s1 : (kAt ks k).size < 1
      · have R : Hid (keysB ks = false) := keysB_false (by rw [HL.out]; exact c) (kOk_no1 s1)
        generalize kAt ks k = s at *
        have s1' : (s.size : Int) < 1 := by omega
        go_wp2
        go_ret
        exact ⟨retV (by rw [R.out]; rfl), rfl⟩
      have s1' : ¬ ((kAt ks k).size : Int) < 1 := by omega
      by_cases s2 : 40 < (kAt ks k).size
      · have R : Hid (keysB ks = false) := keysB_false (by rw [HL.out]; exact c) (kOk_no2 s2)
        generalize kAt ks k = s at *
        have s2' : (40 : Int) < (s.size : Int) := by omega
        go_wp2
        go_ret
        exact ⟨retV (by rw [R.out]; rfl), rfl⟩
      have s2' : ¬ (40 : Int) < ((kAt ks k).size : Int) := by omega
      by_cases k0 : k = 0
      · have R : Hid (∀ j, j < k + 1 → kOk ks j = true) := fun j hj => by
          obtain rfl : j = k := by omega
          exact kOk_of (by omega) (by omega) (Or.inl k0)
        have k0' : ¬ (0 : Int) < (k : Int) := by omega
        have K0 : Hid _ := k0
        generalize kAt ks k = s at *
        clear k0
        go_wp2
        go_roundg (n - (k + 1))
        case measure => omega
        case rel => exact ⟨k + 1, by omega, rfl, by go_num, rfl, R.out⟩
      have k0' : (0 : Int) < (k : Int) := by omega
      obtain ⟨m, hm⟩ : ∃ m : Nat, m = k - 1 := ⟨_, rfl⟩
      have em : (k : Int) - 1 = (m : Int) := by omega
      have e2 := C.out m (by omega)
      have m' : (m : Int) < (n : Int) := by omega
      have L : Hid _ := toL_eq (kAt ks m) (kAt ks k)
      cases lt : Op.bytesLess (kAt ks m).toList (kAt ks k).toList with
      | true =>
        have R : Hid (∀ j, j < k + 1 → kOk ks j = true) := fun j hj => by
          rcases Nat.lt_or_ge j k with q | q
          · exact hR.out j q
          · obtain rfl : j = k := by omega
            exact kOk_of (by omega) (by omega) (Or.inr (by rw [← hm]; exact lt))
        generalize kAt ks k = s at *
        generalize kAt ks m = t at *
        have M : Hid _ := hm
        clear hm
        go_wp2
        go_roundg (n - (k + 1))
        case measure => omega
        case rel => exact ⟨k + 1, by omega, rfl, by go_num, rfl, R.out⟩
      | false =>
        have R : Hid (keysB ks = false) := keysB_false (by rw [HL.out]; exact c) (kOk_no3 (by omega) (by rw [← hm]; exact lt))
        generalize kAt ks k = s at *
        generalize kAt ks m = t at *
        have M : Hid _ := hm
        clear hm
        go_wp2
        go_ret
        exact ⟨retV (by rw [R.out]; rfl), rfl⟩
    · obtain rfl : n = k := by omega
      have R : Hid (keysB ks = true) := keysB_true (fun j hj => hR.out j (by have := HL.out; omega))
      go_wp2
      go_ret
      exact ⟨retV (by rw [R.out]; rfl), rfl⟩

theorem longV_any (s : ByteArray) (w : World) (hs : s.size ≤ 100000) : Calls Try.prog 78 #[.string s] w fun e w' => e = .returned (.bool (decide (400 < s.size))) ∧ w = w' := by
  by_cases c : 400 < s.size
  · have c' : (400 : Int) < (s.size : Int) := by omega
    rw [decide_eq_true c]
    go_enter Try.func78, Try.ntmps78
    go_wp2
    go_ret
    exact ⟨by simp, rfl⟩
  · have c' : ¬ (400 : Int) < (s.size : Int) := by omega
    rw [decide_eq_false c]
    go_enter Try.func78, Try.ntmps78
    go_wp2
    go_ret
    exact ⟨by simp [c'], rfl⟩

set_option maxRecDepth 100000 in
set_option maxHeartbeats 4000000 in
theorem IndexFunc_any (a : Option Addr) (n cap : Nat) (vs : List ByteArray) (w : World) (h : Sl w a n cap (sv vs)) (hn : n ≤ 100000) (hs : tot vs ≤ 100000) :
    Calls Try.prog 90 #[.slice a n cap, .func (.func 78) #[] #[]] w fun e w' => (∃ i : Int, e = .returned (.int .i64 i) ∧ decide (0 ≤ i) = !(valsB vs)) ∧ w = w' := by
  have hl := h.slen
  rcases Nat.eq_zero_or_pos n with q | q
  · subst q
    have R : Hid (valsB vs = true) := valsB_true (fun j hj => by omega)
    clear h
    go_enter Try.func90, Try.ntmps90
    go_wp2_with fail
    go_rounds 1
    go_ret
    exact ⟨⟨-1, rfl, by rw [R.out]; rfl⟩, rfl⟩
  obtain ⟨b, o, rfl, _⟩ := h.at q
  have C : Hid (∀ i, i < n → w.cell? ⟨b, o + i, none⟩ = some (.string (kAt vs i))) := fun i hi => h.str hi
  have HL : Hid _ := hl
  have hn' : (n : Int) ≤ 100000 := by omega
  clear h hl
  go_enter Try.func90, Try.ntmps90
  go_wp2_with fail
  go_loopg [8] n (fun g iv wr => ∃ k : Nat, k ≤ n ∧ g = n - k ∧ iv = .int .i64 (k : Nat) ∧ wr = w ∧ Hid (∀ j, j < k → (kAt vs j).size ≤ 400))
  case atStart => exact ⟨0, Nat.zero_le _, rfl, rfl, rfl, fun j hj => by omega⟩
  case round =>
    obtain ⟨k, hk, rfl, rfl, rfl, hR⟩ := hrel
    by_cases c : k < n
    · have c' : (k : Int) < (n : Int) := by omega
      have e1 := C.out k c
      have K : Hid _ := longV_any (kAt vs k) wr (Nat.le_trans (kAt_le (ss := vs) k) hs)
      by_cases s1 : 400 < (kAt vs k).size
      · have R : Hid (valsB vs = false) := valsB_false (by rw [HL.out]; exact c) s1
        rw [decide_eq_true s1] at K
        generalize kAt vs k = s at *
        go_wp2_with (go_at_call 78; refine Calls.mono K.out ?_; rintro e w1 ⟨rfl, rfl⟩)
        go_ret
        exact ⟨⟨k, rfl, by rw [R.out]; simp⟩, rfl⟩
      · have R : Hid (∀ j, j < k + 1 → (kAt vs j).size ≤ 400) := fun j hj => by
          rcases Nat.lt_or_ge j k with q | q
          · exact hR.out j q
          · obtain rfl : j = k := by omega
            omega
        rw [decide_eq_false s1] at K
        generalize kAt vs k = s at *
        go_wp2_with (go_at_call 78; refine Calls.mono K.out ?_; rintro e w1 ⟨rfl, rfl⟩)
        go_roundg (n - (k + 1))
        case measure => omega
        case rel => exact ⟨k + 1, by omega, rfl, by go_num, rfl, R.out⟩
    · obtain rfl : n = k := by omega
      have R : Hid (valsB vs = true) := valsB_true (fun j hj => hR.out j (by have := HL.out; omega))
      go_wp2
      go_ret
      exact ⟨⟨-1, rfl, by rw [R.out]; rfl⟩, rfl⟩

theorem ContainsFunc_any (a : Option Addr) (n cap : Nat) (vs : List ByteArray) (w : World) (h : Sl w a n cap (sv vs)) (hn : n ≤ 100000) (hs : tot vs ≤ 100000) :
    Calls Try.prog 77 #[.slice a n cap, .func (.func 78) #[] #[]] w fun e w' => e = .returned (.bool (!(valsB vs))) ∧ w = w' := by
  have K : Hid _ := IndexFunc_any a n cap vs w h hn hs
  clear h
  go_enter Try.func77, Try.ntmps77
  go_wp2_with (go_at_call 90; refine Calls.mono K.out ?_; rintro e w1 ⟨⟨i, rfl, hi⟩, rfl⟩)
  go_ret
  exact ⟨retV (by rw [← hi]; rfl), rfl⟩
theorem goodVals_any (a : Option Addr) (n cap : Nat) (vs : List ByteArray) (w : World) (h : Sl w a n cap (sv vs)) (hn : n ≤ 100000) (hs : tot vs ≤ 100000) :
    Calls Try.prog 58 #[.slice a n cap] w fun e w' => e = .returned (.bool (valsB vs)) ∧ w = w' := by
  have K : Hid _ := ContainsFunc_any a n cap vs w h hn hs
  clear h
  go_enter Try.func58, Try.ntmps58
  go_wp2_with (go_at_call 77; refine Calls.mono K.out ?_; rintro e w1 ⟨rfl, rfl⟩)
  go_ret
  exact ⟨by simp, rfl⟩

set_option maxRecDepth 100000 in
set_option maxHeartbeats 4000000 in
theorem Index_any (a : Option Addr) (n cap : Nat) (is : List Nat) (w : World) (h : Sl w a n cap (kv is)) (hn : n ≤ 100000) :
    Calls Try.prog 79 #[.slice a n cap, .int .u64 0] w fun e w' => (∃ i : Int, e = .returned (.int .i64 i) ∧ decide (0 ≤ i) = !(kidsB is)) ∧ w = w' := by
  have hl := h.klen
  rcases Nat.eq_zero_or_pos n with q | q
  · subst q
    have R : Hid (kidsB is = true) := kidsB_true (fun j hj => by omega)
    clear h
    go_enter Try.func79, Try.ntmps79
    go_wp2_with fail
    go_rounds 1
    go_ret
    exact ⟨⟨-1, rfl, by rw [R.out]; rfl⟩, rfl⟩
  obtain ⟨b, o, rfl, _⟩ := h.at q
  have C : Hid (∀ i, i < n → w.cell? ⟨b, o + i, none⟩ = some (.int .u64 ((is.getD i 0 : Nat) : Int))) := fun i hi => h.num hi
  have HL : Hid _ := hl
  have hn' : (n : Int) ≤ 100000 := by omega
  clear h hl
  go_enter Try.func79, Try.ntmps79
  go_wp2_with fail
  go_loopg [8] n (fun g iv wr => ∃ k : Nat, k ≤ n ∧ g = n - k ∧ iv = .int .i64 (k : Nat) ∧ wr = w ∧ Hid (∀ j, j < k → is.getD j 0 ≠ 0))
  case atStart => exact ⟨0, Nat.zero_le _, rfl, rfl, rfl, fun j hj => by omega⟩
  case round =>
    obtain ⟨k, hk, rfl, rfl, rfl, hR⟩ := hrel
    by_cases c : k < n
    · have c' : (k : Int) < (n : Int) := by omega
      have e1 := C.out k c
      obtain ⟨x, hx⟩ : ∃ x : Nat, x = is.getD k 0 := ⟨_, rfl⟩
      rw [← hx] at e1
      by_cases s1 : x = 0
      · have R : Hid (kidsB is = false) := kidsB_false (by rw [HL.out]; exact c) (by rw [← hx]; exact s1)
        subst s1
        have X : Hid _ := hx
        clear hx
        go_wp2
        go_ret
        exact ⟨⟨k, rfl, by rw [R.out]; simp⟩, rfl⟩
      · have R : Hid (∀ j, j < k + 1 → is.getD j 0 ≠ 0) := fun j hj => by
          rcases Nat.lt_or_ge j k with q | q
          · exact hR.out j q
          · obtain rfl : j = k := by omega
            rw [← hx]; exact s1
        have X : Hid _ := hx
        have s1' : ((0 : Int) == (x : Int)) = false := beq_eq_false_iff_ne.2 (by omega)
        clear hx
        go_wp2
        go_roundg (n - (k + 1))
        case measure => omega
        case rel => exact ⟨k + 1, by omega, rfl, by go_num, rfl, R.out⟩
    · obtain rfl : n = k := by omega
      have R : Hid (kidsB is = true) := kidsB_true (fun j hj => hR.out j (by have := HL.out; omega))
      go_wp2
      go_ret
      exact ⟨⟨-1, rfl, by rw [R.out]; rfl⟩, rfl⟩
theorem Contains_any (a : Option Addr) (n cap : Nat) (is : List Nat) (w : World) (h : Sl w a n cap (kv is)) (hn : n ≤ 100000) :
    Calls Try.prog 59 #[.slice a n cap, .int .u64 0] w fun e w' => e = .returned (.bool (!(kidsB is))) ∧ w = w' := by
  have K : Hid _ := Index_any a n cap is w h hn
  clear h
  go_enter Try.func59, Try.ntmps59
  go_wp2_with (go_at_call 79; refine Calls.mono K.out ?_; rintro e w1 ⟨⟨i, rfl, hi⟩, rfl⟩)
  go_ret
  exact ⟨retV (by rw [← hi]; rfl), rfl⟩

end Go.Proofs.Ythdjghmipepppaa

namespace Go.Proofs.Ythdjghmipepppaa
open Go.RowKit
set_option linter.unusedVariables false
set_option linter.unusedSimpArgs false

set_option maxRecDepth 100000 in
set_option maxHeartbeats 4000000 in
theorem Good_any (v : Value) (p : Pg) (w : World) (h : Pv w v p) (f : Bd p) :
    Calls Try.prog 27 #[v] w fun e w' => e = .returned (.bool (goodB p)) ∧ Below w.heap.size w w' := by
  obtain ⟨ka, kn, kc, va, vn, vc, ia, im, ic, rfl, h1, h2, h3⟩ := h.ex
  obtain ⟨lf, ks, vs, is⟩ := p
  simp only at h1 h2 h3
  have l1 := h1.slen
  have l2 := h2.slen
  have l3 := h3.klen
  have b1 := f.keys
  have b2 := f.vals
  have b3 := f.kids
  have b4 := f.tk
  have b5 := f.tv
  simp only at b1 b2 b3 b4 b5
  have B : Hid (∀ o : Obj, Below w.heap.size w (w.alloc o)) := fun o => allocB w o
  have K1 : Hid _ := fun o : Obj => goodKeys_any ka kn kc ks (w.alloc o) (h1.below (allocB w o)) (by omega) (by omega)
  have K2 : Hid _ := fun o : Obj => goodVals_any va vn vc vs (w.alloc o) (h2.below (allocB w o)) (by omega) (by omega)
  have K3 : Hid _ := fun o : Obj => Contains_any ia im ic is (w.alloc o) (h3.below (allocB w o)) (by omega)
  have n1 : kn ≤ 90000 := by omega
  have n2 : vn ≤ 90000 := by omega
  have n3 : im ≤ 90001 := by omega
  have G : Hid (goodB ⟨lf, ks, vs, is⟩ = (keysB ks && (valsB vs && (kidsB is && (if lf then decide (vn = kn) && decide (im = 0) else decide (vn = 0) && decide (im = kn + 1)))))) := by
    show goodB _ = _
    unfold goodB shapeB
    simp only
    rw [l1, l2, l3]
  have E2 : Hid (vn = 0 → valsB vs = true) := fun e => valsB_true (fun j hj => by omega)
  have E3 : Hid (im = 0 → kidsB is = true) := fun e => kidsB_true (fun j hj => by omega)
  clear h h1 h2 h3 l1 l2 l3 b1 b2 b3 b4 b5 f
  generalize goodB ⟨lf, ks, vs, is⟩ = R at *
  generalize keysB ks = x1 at *
  generalize valsB vs = x2 at *
  generalize kidsB is = x3 at *
  cases x1 with
  | false =>
    go_enter Try.func27, Try.ntmps27
    go_wp2_with (go_at_call 57; refine Calls.mono (K1.out _) ?_; rintro e w1 ⟨rfl, rfl⟩)
    go_ret
    exact ⟨retV (by rw [G.out]; rfl), B.out _⟩
  | true =>
    cases lf with
    | true =>
      by_cases c1 : vn = kn
      · subst c1
        cases x2 with
        | true =>
          by_cases c2 : im = 0
          · have e3 := E3.out c2
            subst c2 e3
            go_enter Try.func27, Try.ntmps27
            go_wp2_with (first | (go_at_call 57; refine Calls.mono (K1.out _) ?_; rintro e w1 ⟨rfl, rfl⟩) | (go_at_call 58; refine Calls.mono (K2.out _) ?_; rintro e w1 ⟨rfl, rfl⟩))
            go_ret
            exact ⟨retV (by rw [G.out]; simp), B.out _⟩
          · have c2' : ((im : Int) == 0) = false := beq_eq_false_iff_ne.2 (by omega)
            have D : Hid (decide (im = 0) = false) := decide_eq_false c2
            have C2 : Hid _ := c2
            clear c2
            go_enter Try.func27, Try.ntmps27
            go_wp2_with (first | (go_at_call 57; refine Calls.mono (K1.out _) ?_; rintro e w1 ⟨rfl, rfl⟩) | (go_at_call 58; refine Calls.mono (K2.out _) ?_; rintro e w1 ⟨rfl, rfl⟩))
            go_ret
            exact ⟨retV (by rw [G.out, D.out]; simp), B.out _⟩
        | false =>
          go_enter Try.func27, Try.ntmps27
          go_wp2_with (first | (go_at_call 57; refine Calls.mono (K1.out _) ?_; rintro e w1 ⟨rfl, rfl⟩) | (go_at_call 58; refine Calls.mono (K2.out _) ?_; rintro e w1 ⟨rfl, rfl⟩))
          go_ret
          exact ⟨retV (by rw [G.out]; rfl), B.out _⟩
      · have c1' : ((vn : Int) == (kn : Int)) = false := beq_eq_false_iff_ne.2 (by omega)
        have D : Hid (decide (vn = kn) = false) := decide_eq_false c1
        have C1 : Hid _ := c1
        clear c1
        go_enter Try.func27, Try.ntmps27
        go_wp2_with (first | (go_at_call 57; refine Calls.mono (K1.out _) ?_; rintro e w1 ⟨rfl, rfl⟩) | (go_at_call 58; refine Calls.mono (K2.out _) ?_; rintro e w1 ⟨rfl, rfl⟩))
        go_ret
        exact ⟨retV (by rw [G.out, D.out]; simp), B.out _⟩
    | false =>
      by_cases c1 : vn = 0
      · have e2 := E2.out c1
        subst c1 e2
        by_cases c2 : im = kn + 1
        · subst c2
          cases x3 with
          | true =>
            go_enter Try.func27, Try.ntmps27
            go_wp2_with (first | (go_at_call 57; refine Calls.mono (K1.out _) ?_; rintro e w1 ⟨rfl, rfl⟩) | (go_at_call 59; refine Calls.mono (K3.out _) ?_; rintro e w1 ⟨rfl, rfl⟩))
            go_ret
            exact ⟨retV (by rw [G.out]; simp), B.out _⟩
          | false =>
            go_enter Try.func27, Try.ntmps27
            go_wp2_with (first | (go_at_call 57; refine Calls.mono (K1.out _) ?_; rintro e w1 ⟨rfl, rfl⟩) | (go_at_call 59; refine Calls.mono (K3.out _) ?_; rintro e w1 ⟨rfl, rfl⟩))
            go_ret
            exact ⟨retV (by rw [G.out]; simp), B.out _⟩
        · have c2' : ((im : Int) == (kn : Int) + 1) = false := beq_eq_false_iff_ne.2 (by omega)
          have D : Hid (decide (im = kn + 1) = false) := decide_eq_false c2
          have C2 : Hid _ := c2
          clear c2
          go_enter Try.func27, Try.ntmps27
          go_wp2_with (first | (go_at_call 57; refine Calls.mono (K1.out _) ?_; rintro e w1 ⟨rfl, rfl⟩) | (go_at_call 59; refine Calls.mono (K3.out _) ?_; rintro e w1 ⟨rfl, rfl⟩))
          go_ret
          exact ⟨retV (by rw [G.out, D.out]; simp), B.out _⟩
      · have c1' : ((vn : Int) == 0) = false := beq_eq_false_iff_ne.2 (by omega)
        have D : Hid (decide (vn = 0) = false) := decide_eq_false c1
        have C1 : Hid _ := c1
        clear c1
        go_enter Try.func27, Try.ntmps27
        go_wp2_with (first | (go_at_call 57; refine Calls.mono (K1.out _) ?_; rintro e w1 ⟨rfl, rfl⟩) | (go_at_call 59; refine Calls.mono (K3.out _) ?_; rintro e w1 ⟨rfl, rfl⟩))
        go_ret
        exact ⟨retV (by rw [G.out, D.out]; simp), B.out _⟩

set_option maxHeartbeats 1000000 in
theorem head_any (lf : Bool) (n : Nat) (w : World) (hn : n ≤ 100000) :
    Calls Try.prog 46 #[.bool lf, .int .i64 (n : Nat)] w fun e w' => New w w' e (encH lf n) := by
  have W : IntKind.u64.wrap (n : Int) = (n : Int) := by rw [IntKind.wrap_u64]; omega
  cases lf with
  | true =>
    have K : Hid _ := pU_any (some ⟨w.heap.size, 0, none⟩) 1 1 n [76] _ (by_new w 76 5 (by decide) (by decide)) (by omega) (by omega)
    go_enter Try.func46, Try.ntmps46
    go_wp2_with (go_at_call 50; refine Calls.mono K.out ?_; rintro e w2 ⟨⟨v2, rfl, o2⟩, b2⟩)
    go_ret
    exact ⟨⟨v2, rfl, o2.mono (by simp)⟩, nextB (allocB w _) b2⟩
  | false =>
    have K : Hid _ := pU_any (some ⟨w.heap.size, 0, none⟩) 1 1 n [66] _ (by_new w 66 5 (by decide) (by decide)) (by omega) (by omega)
    go_enter Try.func46, Try.ntmps46
    go_wp2_with (go_at_call 50; refine Calls.mono K.out ?_; rintro e w2 ⟨⟨v2, rfl, o2⟩, b2⟩)
    go_ret
    exact ⟨⟨v2, rfl, o2.mono (by simp)⟩, nextB (allocB w _) b2⟩

set_option maxHeartbeats 1000000 in
theorem item_any (s t : ByteArray) (w : World) (hs : s.size ≤ 10000) (ht : t.size ≤ 10000) :
    Calls Try.prog 48 #[.string s, .string t] w fun e w' => New w w' e (encS s ++ encS t) := by
  have K : Hid _ := pS_any none 0 0 s [] w (By.empty w) (by omega) hs
  have E : Hid (encS s ++ encS t = encS s ++ enc t.size ++ nums t) := by show _ = _; unfold encS; simp
  have L : Hid _ := encS_le s (by omega)
  go_enter Try.func48, Try.ntmps48
  go_wp2_with fail
  refine Calls.mono K.out ?_
  rintro e w1 ⟨⟨v1, rfl, o1⟩, b1⟩
  rw [List.nil_append] at o1
  have o1' : Own w1 w.heap.size v1 (encS s) := o1
  obtain ⟨a1, cap1, rfl, y1, s1, hh1⟩ := o1'.by
  have K2 : Hid _ := pS_any a1 _ cap1 t (encS s) w1 y1 (by have := L.out; omega) ht
  clear o1 y1 s1 hh1
  go_wp2_with (go_at_call 49; refine Calls.mono K2.out ?_; rintro e w2 ⟨⟨v2, rfl, o2⟩, b2⟩)
  go_ret
  exact ⟨⟨v2, rfl, by rw [E.out]; exact o2.mono b1.size⟩, nextB b1 b2⟩

end Go.Proofs.Ythdjghmipepppaa

namespace Go.Proofs.Ythdjghmipepppaa
open Go.RowKit
set_option linter.unusedVariables false
set_option linter.unusedSimpArgs false

/-- Things are returned, in new memory. -/
def NewV (T : TypeId) (w w' : World) (e : Ending) (vs : List Value) : Prop := (∃ v, e = .returned v ∧ Ow w' T w.heap.size v vs) ∧ Below w.heap.size w w'

set_option maxHeartbeats 1000000 in
theorem values_any (v : Value) (p : Pg) (w : World) (h : Pv w v p) (f : Fit p) (hl : p.leaf = true) :
    Calls Try.prog 47 #[v] w fun e w' => NewV 9 w w' e (sv p.vals) := by
  obtain ⟨ka, kn, kc, va, vn, vc, ia, im, ic, rfl, h1, h2, h3⟩ := h.ex
  obtain ⟨lf, ks, vs, is⟩ := p
  simp only at h1 h2 h3 hl
  have l1 := h1.slen
  have l2 := h2.slen
  have b1 := f.keys
  have ev := f.even hl
  simp only at b1 ev
  obtain rfl : kn = vn := by omega
  have nb : kn ≤ 2000 := by omega
  have MK : ∀ o : Obj, (Instr.makeSlice 52 (.int .i64 (kn : Nat)) (.int .i64 (kn : Nat))).run Try.prog (w.alloc o) = .ok (.slice (some ⟨(w.alloc o).heap.size, 0, none⟩) kn kn) ((w.alloc o).alloc (.cells (List.replicate kn (Value.string ByteArray.empty)).toArray 9)) := fun o => make_str (w.alloc o) kn (by omega)
  have CP : ∀ o : Obj, (Builtin.copy_ #[52, 52] 3 #[.slice (some ⟨(w.alloc o).heap.size, 0, none⟩) kn kn, .slice va kn vc]).run Try.prog ((w.alloc o).alloc (.cells (List.replicate kn (Value.string ByteArray.empty)).toArray 9)) = .ok (.int .i64 (kn : Nat)) ((w.alloc o).alloc (.cells (sv vs).toArray 9)) := fun o => copy_str (w.alloc o) 3 va kn vc (sv vs) (h2.below (allocB w o)) (by omega)
  have O : Hid (∀ o : Obj, Ow ((w.alloc o).alloc (.cells (sv vs).toArray 9)) 9 (w.alloc o).heap.size (.slice (some ⟨(w.alloc o).heap.size, 0, none⟩) kn kn) (sv vs)) := fun o => by
    have := ow_new (w.alloc o) 9 (sv vs) (sv_one vs) (by rw [sv_len]; omega)
    rw [sv_len, l2] at this
    exact this
  have B : Hid (∀ o o' : Obj, Below w.heap.size w ((w.alloc o).alloc o')) := fun o o' => nextB (allocB w o) (allocB _ o')
  simp only [World.size_alloc] at MK CP O
  generalize (List.replicate kn (Value.string ByteArray.empty)).toArray = Z at *
  generalize (sv vs).toArray = C at *
  clear h h1 h2 h3 f l1 l2 ev
  go_enter Try.func47, Try.ntmps47
  go_wp2
  go_ret
  exact ⟨⟨_, rfl, (O.out _).mono (by omega)⟩, B.out _ _⟩

end Go.Proofs.Ythdjghmipepppaa

namespace Go.Proofs.Ythdjghmipepppaa
open Go.RowKit
set_option linter.unusedVariables false
set_option linter.unusedSimpArgs false

/-- Four cells of a block. -/
structure B4 (w : World) (b : Nat) (c0 c1 c2 c3 : Value) : Prop where
  a0 : w.cell? ⟨b, 0, none⟩ = some c0
  a1 : w.cell? ⟨b, 1, none⟩ = some c1
  a2 : w.cell? ⟨b, 2, none⟩ = some c2
  a3 : w.cell? ⟨b, 3, none⟩ = some c3
theorem B4.new (w : World) (c0 c1 c2 c3 : Value) (t : TypeId) : B4 (w.alloc (.cells #[c0, c1, c2, c3] t)) w.heap.size c0 c1 c2 c3 :=
  ⟨by simp, by simp, by simp, by simp⟩
theorem B4.lt {w : World} {b : Nat} {c0 c1 c2 c3 : Value} (h : B4 w b c0 c1 c2 c3) : b < w.heap.size := World.block_lt_of_cell? _ _ h.a0
theorem B4.kept {w w' : World} {b : Nat} {c0 c1 c2 c3 : Value} (h : B4 w b c0 c1 c2 c3) (e : w'.heap[b]? = w.heap[b]?) : B4 w' b c0 c1 c2 c3 :=
  ⟨(World.cell?_of_block (w := w) (a := ⟨b, 0, none⟩) e).trans h.a0, (World.cell?_of_block (w := w) (a := ⟨b, 1, none⟩) e).trans h.a1, (World.cell?_of_block (w := w) (a := ⟨b, 2, none⟩) e).trans h.a2, (World.cell?_of_block (w := w) (a := ⟨b, 3, none⟩) e).trans h.a3⟩
theorem B4.below {w w' : World} {b : Nat} {c0 c1 c2 c3 : Value} (h : B4 w b c0 c1 c2 c3) (hb : Below w.heap.size w w') : B4 w' b c0 c1 c2 c3 := h.kept (hb.block b h.lt)
theorem B4.grown {w w' : World} {b : Nat} {c0 c1 c2 c3 : Value} {row : Option Nat} (h : B4 w b c0 c1 c2 c3) (hg : w.grownBy w' row) (hne : some b ≠ row) : B4 w' b c0 c1 c2 c3 := h.kept (hg.block b h.lt hne)

/-- What stands in memory while bytes are gathered. -/
structure EI (w : World) (base bb : Nat) (c0 c1 c2 c3 : Value) (ka : Option Addr) (kn kc : Nat) (ks : List Value) (xa : Option Addr) (xn xc : Nat) (xs : List Value) (bv : Value) (acc : List Int) (wr : World) : Prop where
  own : Own wr base bv acc
  box : B4 wr bb c0 c1 c2 c3
  key : Sl wr ka kn kc ks
  oth : Sl wr xa xn xc xs
  low : ∀ x, 0 < kn → ka = some x → x.block < base
  ap : ∀ g x, bv.ownBlock = some g → 0 < xn → xa = some x → x.block ≠ g
  bbl : bb < base
  wb : w.heap.size ≤ base
  bel : Below w.heap.size w wr
  bas : base ≤ wr.heap.size
theorem EI.step {w : World} {base bb : Nat} {c0 c1 c2 c3 : Value} {ka : Option Addr} {kn kc : Nat} {ks : List Value} {xa : Option Addr} {xn xc : Nat} {xs : List Value} {bv : Value} {acc : List Int} {wr w2 w3 : World} {v3 : Value} {it : List Int}
    (h : EI w base bb c0 c1 c2 c3 ka kn kc ks xa xn xc xs bv acc wr) (b2 : Below wr.heap.size wr w2) (o3 : Own w3 base v3 (acc ++ it)) (g3 : w2.grownBy w3 bv.ownBlock) (l3 : Lies w2 bv v3) :
    EI w base bb c0 c1 c2 c3 ka kn kc ks xa xn xc xs v3 (acc ++ it) w3 := by
  have s2 := b2.size
  have s3 := g3.size
  have hb := h.bas
  refine ⟨o3, (h.box.below b2).grown g3 ?_, (h.key.below b2).grown g3 ?_, (h.oth.below b2).grown g3 ?_, h.low, ?_, h.bbl, h.wb, ?_, by omega⟩
  · intro e
    have := (h.own.lt bb e.symm).1
    have := h.bbl
    omega
  · intro p x hx e
    have := (h.own.lt _ e.symm).1
    have := h.low x p hx
    omega
  · intro p x hx e
    exact h.ap _ x e.symm p hx rfl
  · intro g x hg p hx e
    subst e
    exact l3.ne (Nat.lt_of_lt_of_le (h.oth.old p x hx) s2) (fun e => h.ap _ x e p hx rfl) hg
  · exact (nextB h.bel b2).grown g3 (Nat.le_trans h.bel.size s2) (fun k hk => Nat.le_trans h.wb (h.own.lt k hk).1)

set_option maxRecDepth 100000 in
set_option maxHeartbeats 4000000 in
theorem Encode_leaf (v : Value) (p : Pg) (w : World) (h : Pv w v p) (f : Fit p) (hl : p.leaf = true) :
    Calls Try.prog 18 #[v] w fun e w' => New w w' e (encP p) := by
  rw [encP_leaf hl]
  have VA : Hid _ := values_any v p
  obtain ⟨ka, kn, kc, va, vn, vc, ia, im, ic, rfl, h1, h2, h3⟩ := h.ex
  obtain ⟨lf, ks, vs, is⟩ := p
  simp only at h1 h2 h3 hl VA
  subst hl
  have l1 := h1.slen
  have l2 := h2.slen
  have b1 := f.keys
  have b2 := f.tk
  have b3 := f.tv
  have ev := f.even rfl
  simp only at b1 b2 b3 ev
  have LE := encI_le ks vs (by omega) (by omega)
  have n1 : kn ≤ 2000 := by omega
  have n1' : (kn : Int) ≤ 2000 := by omega
  have H : Hid _ := h
  have F : Hid _ := f
  simp only
  rw [l1]
  have HK : Hid _ := h1
  clear h h2 h3 f h1
  go_enter Try.func18, Try.ntmps18
  go_wp2_with (go_at_call 46; refine Calls.mono (head_any true kn _ (by omega)) ?_; rintro e w1 ⟨⟨v1, rfl, o1⟩, bl1⟩; obtain ⟨x0, x1, x2, x3⟩ := (B4.new w (.bool true) (.slice ka kn kc) (.slice va vn vc) (.slice ia im ic) 54).below bl1)
  refine Calls.mono (VA.out w1 (H.out.below (nextB (allocB w _) bl1)) F.out (by simp)) ?_
  rintro e w2 ⟨⟨v2, rfl, o2⟩, bl2⟩
  obtain ⟨ya, yc, rfl, s2, z2, yh⟩ := o2.sl
  have evl : vs.length = kn := by omega
  rw [sv_len, evl] at s2
  rw [sv_len, evl]
  have X0 : Hid _ := And.intro x0 (And.intro x1 (And.intro x2 x3))
  have O1 : Hid _ := And.intro o1 bl1
  have O2 : Hid _ := And.intro o2 (And.intro bl2 (And.intro s2 (And.intro z2 yh)))
  clear x0 x1 x2 x3 o1 bl1 o2 bl2 s2 z2 yh
  go_wp2_with fail
  obtain ⟨x0, x1, x2, x3⟩ := X0.out
  obtain ⟨o1, bl1⟩ := O1.out
  obtain ⟨o2, bl2, s2, z2, yh⟩ := O2.out
  have z1 : w1.heap.size ≤ w2.heap.size := bl2.size
  have EI0 : Hid (EI w (w.heap.size + 1) w.heap.size (.bool true) (.slice ka kn kc) (.slice va vn vc) (.slice ia im ic) ka kn kc (sv ks) ya kn yc (sv vs) v1 (encH true kn ++ encI (ks.take 0) (vs.take 0)) w2) := by
    have s0 := bl1.size
    simp only [World.size_alloc] at s0
    refine ⟨?_, (B4.mk x0 x1 x2 x3).below bl2, HK.out.below (nextB (nextB (allocB w _) bl1) bl2), s2, fun x p hx => ?_, fun g x hg p hx e => ?_, by omega, by omega, nextB (nextB (allocB w _) bl1) bl2, by omega⟩
    · have := o1.below bl2
      simp only [World.size_alloc] at this
      simpa [encI] using this
    · have := HK.out.old p x hx
      omega
    · have a1 := (z2 x hx).1
      have a2 := (o1.lt g hg).2
      omega
  have evh : Hid _ := And.intro evl (And.intro ev l1)
  clear x0 x1 x2 x3 o1 bl1 o2 bl2 s2 z2 VA H F HK evl ev l1
  have B1 : w.heap.size < w2.heap.size := by have := EI0.out.bas; omega
  go_loopg [3, 21] kn (fun g bv iv wr => ∃ k : Nat, k ≤ kn ∧ g = kn - k ∧ iv = .int .i64 (k : Nat) ∧ Hid (EI w (w.heap.size + 1) w.heap.size (.bool true) (.slice ka kn kc) (.slice va vn vc) (.slice ia im ic) ka kn kc (sv ks) ya kn yc (sv vs) bv (encH true kn ++ encI (ks.take k) (vs.take k)) wr))
  case atStart => exact ⟨0, Nat.zero_le _, rfl, rfl, EI0.out⟩
  case round =>
    obtain ⟨k, hk, rfl, rfl, hE⟩ := hrel
    by_cases c : k < kn
    · have c' : (k : Int) < (kn : Int) := by omega
      obtain ⟨b, o, rfl, _⟩ := hE.out.key.at (by omega)
      obtain ⟨b', o', rfl, _⟩ := hE.out.oth.at (by omega)
      have e1 := hE.out.key.str c
      have e2 := hE.out.oth.str c
      have x1 := hE.out.box.a1
      have K : Hid _ := item_any (kAt ks k) (kAt vs k) wr (Nat.le_trans (kAt_le (ss := ks) k) (by omega)) (Nat.le_trans (kAt_le (ss := vs) k) (by omega))
      have SN : Hid _ := encI_snoc (ks := ks) (vs := vs) (k := k) (by have := evh.out; omega) (by have := evh.out; omega)
      have L2 : Hid ((encH true kn ++ encI (ks.take k) (vs.take k)).length ≤ 80000 ∧ (encS (kAt ks k) ++ encS (kAt vs k)).length ≤ 80000) := by
        have t1 := tot_take_le ks k
        have t2 := tot_take_le vs k
        have t3 := encI_le (ks.take k) (vs.take k) (by omega) (by omega)
        have t4 := enc_len10 (u := kn) (by omega)
        have t5 : (ks.take k).length ≤ k := by simp; omega
        have t6 := encS_le (kAt ks k) (Nat.le_trans (kAt_le (ss := ks) k) (by omega))
        have t7 := encS_le (kAt vs k) (Nat.le_trans (kAt_le (ss := vs) k) (by omega))
        have t8 := kAt_le (ss := ks) k
        have t9 := kAt_le (ss := vs) k
        show _ ∧ _
        rw [List.length_append, List.length_append]
        unfold encH
        rw [List.length_cons]
        omega
      have e1' : wr.cell? ⟨b, o + k, none⟩ = some (.string (kAt ks k)) := e1
      have e2' : wr.cell? ⟨b', o' + k, none⟩ = some (.string (kAt vs k)) := e2
      clear e1 e2
      generalize kAt ks k = s at *
      generalize kAt vs k = t at *
      generalize encS s ++ encS t = it at *
      go_wp2_with (first | (go_at_call 48; refine Calls.mono K.out ?_; rintro e w3 ⟨⟨v3, rfl, o3⟩, bl3⟩; obtain ⟨a3, cap3, rfl, y3, s3, hh3⟩ := o3.by) | (at_builtin; refine wpList_append_ba rfl (.tmp 26) (.tmp 33) rfl (w.heap.size + 1) _ (encH true kn ++ encI (ks.take k) (vs.take k)) rfl (hE.out.own.below bl3) a3 _ cap3 it rfl y3 (by have := L2.out; omega) (Nat.le_trans hE.out.bas bl3.size) ?_; intro v4 w4 o4 g4 l4))
      go_roundg (kn - (k + 1))
      case measure => omega
      case rel =>
        refine ⟨k + 1, by omega, rfl, by go_num, ?_⟩
        rw [SN.out, ← List.append_assoc]
        exact hE.out.step bl3 o4 g4 l4
    · obtain rfl : kn = k := by omega
      have L : Hid (encI (ks.take kn) (vs.take kn) = encI ks vs) := by show _ = _; rw [List.take_of_length_le (by have := evh.out; omega), List.take_of_length_le (by have := evh.out; omega)]
      go_wp2
      go_ret
      have O := hE.out.own
      rw [L.out] at O
      exact ⟨⟨_, rfl, O.mono (by omega)⟩, hE.out.bel⟩

end Go.Proofs.Ythdjghmipepppaa

namespace Go.Proofs.Ythdjghmipepppaa
open Go.RowKit
set_option linter.unusedVariables false
set_option linter.unusedSimpArgs false

set_option maxRecDepth 100000 in
set_option maxHeartbeats 4000000 in
theorem Encode_branch (v : Value) (p : Pg) (w : World) (h : Pv w v p) (f : Fit p) (hl : p.leaf = false) :
    Calls Try.prog 18 #[v] w fun e w' => New w w' e (encP p) := by
  rw [encP_branch hl]
  obtain ⟨ka, kn, kc, va, vn, vc, ia, im, ic, rfl, h1, h2, h3⟩ := h.ex
  obtain ⟨lf, ks, vs, is⟩ := p
  simp only at h1 h2 h3 hl
  subst hl
  have l1 := h1.slen
  have l3 := h3.klen
  have b1 := f.keys
  have b2 := f.tk
  have b4 := f.kids
  have b5 := f.kid
  simp only at b1 b2 b4 b5
  have n1 : kn ≤ 2000 := by omega
  have n1' : (kn : Int) ≤ 2000 := by omega
  have n3 : im ≤ 2001 := by omega
  have n3' : (im : Int) ≤ 2001 := by omega
  simp only
  rw [l1]
  have HK : Hid _ := And.intro h1 h3
  have LL : Hid _ := And.intro l1 l3
  have KB : Hid _ := b5
  clear h h2 h3 f h1 l1 l3 b1 b4 b5
  go_enter Try.func18, Try.ntmps18
  go_wp2_with (go_at_call 46; refine Calls.mono (head_any false kn _ (by omega)) ?_; rintro e w1 ⟨⟨v1, rfl, o1⟩, bl1⟩; obtain ⟨x0, x1, x2, x3⟩ := (B4.new w (.bool false) (.slice ka kn kc) (.slice va vn vc) (.slice ia im ic) 54).below bl1)
  have EI0 : Hid (EI w (w.heap.size + 1) w.heap.size (.bool false) (.slice ka kn kc) (.slice va vn vc) (.slice ia im ic) ka kn kc (sv ks) ia im ic (kv is) v1 (encH false kn ++ encK (ks.take 0)) w1) := by
    have s0 := bl1.size
    simp only [World.size_alloc] at s0
    refine ⟨?_, (B4.mk x0 x1 x2 x3), HK.out.1.below (nextB (allocB w _) bl1), HK.out.2.below (nextB (allocB w _) bl1), fun x p hx => ?_, fun g x hg p hx e => ?_, by omega, by omega, nextB (allocB w _) bl1, by omega⟩
    · simp only [World.size_alloc] at o1
      simpa [encK] using o1
    · have := HK.out.1.old p x hx
      omega
    · have a1 := HK.out.2.old p x hx
      have a2 := (o1.lt g hg).1
      simp only [World.size_alloc] at a2
      omega
  clear x0 x1 x2 x3 o1 bl1
  have B1 : w.heap.size < w1.heap.size := by have := EI0.out.bas; omega
  go_loopg [3, 40] kn (fun g bv iv wr => ∃ k : Nat, k ≤ kn ∧ g = kn - k ∧ iv = .int .i64 (k : Nat) ∧ Hid (EI w (w.heap.size + 1) w.heap.size (.bool false) (.slice ka kn kc) (.slice va vn vc) (.slice ia im ic) ka kn kc (sv ks) ia im ic (kv is) bv (encH false kn ++ encK (ks.take k)) wr))
  case atStart => exact ⟨0, Nat.zero_le _, rfl, rfl, EI0.out⟩
  case round =>
    obtain ⟨k, hk, rfl, rfl, hE⟩ := hrel
    have EL : Hid (∀ k, (encH false kn ++ encK (ks.take k)).length ≤ 40000) := fun k => by
      have t1 := tot_take_le ks k
      have t3 := encK_le (ks.take k) (by omega)
      have t4 := enc_len10 (u := kn) (by omega)
      have t5 : (ks.take k).length ≤ 2000 := by have := LL.out.1; simp; omega
      show _ ≤ 40000
      rw [List.length_append]
      unfold encH
      rw [List.length_cons]
      omega
    by_cases c : k < kn
    · have c' : (k : Int) < (kn : Int) := by omega
      obtain ⟨b, o, rfl, _⟩ := hE.out.key.at (by omega)
      have e1 := hE.out.key.str c
      have x1 := hE.out.box.a1
      have K : Hid _ := pS_any none 0 0 (kAt ks k) [] wr (By.empty wr) (by omega) (Nat.le_trans (kAt_le (ss := ks) k) (by omega))
      have SN : Hid _ := encK_snoc (ks := ks) (k := k) (by have := LL.out; omega)
      have L2 : Hid ((encS (kAt ks k)).length ≤ 40000) := by
        have t6 := encS_le (kAt ks k) (Nat.le_trans (kAt_le (ss := ks) k) (by omega))
        have t8 := kAt_le (ss := ks) k
        show _ ≤ 40000
        omega
      have e1' : wr.cell? ⟨b, o + k, none⟩ = some (.string (kAt ks k)) := e1
      clear e1
      generalize kAt ks k = s at *
      have ES : Hid ([] ++ enc s.size ++ nums s = encS s) := by show _ = _; unfold encS; simp
      rw [ES.out] at K
      generalize encS s = it at *
      go_wp2_with (first | (go_at_call 49; refine Calls.mono K.out ?_; rintro e w3 ⟨⟨v3, rfl, o3⟩, bl3⟩; obtain ⟨a3, cap3, rfl, y3, s3, hh3⟩ := o3.by) | (at_builtin; refine wpList_append_ba rfl (.tmp 44) (.tmp 46) rfl (w.heap.size + 1) _ (encH false kn ++ encK (ks.take k)) rfl (hE.out.own.below bl3) a3 _ cap3 it rfl y3 (by have := L2.out; have := EL.out k; omega) (Nat.le_trans hE.out.bas bl3.size) ?_; intro v4 w4 o4 g4 l4))
      go_roundg (kn - (k + 1))
      case measure => omega
      case rel =>
        refine ⟨k + 1, by omega, rfl, by go_num, ?_⟩
        rw [SN.out, ← List.append_assoc]
        exact hE.out.step bl3 o4 g4 l4
    · obtain rfl : kn = k := by omega
      have L : Hid (encK (ks.take kn) = encK ks) := by show _ = _; rw [List.take_of_length_le (by have := LL.out; omega)]
      have x3 := hE.out.box.a3
      have EL2 : Hid (∀ k, (encH false kn ++ encK ks ++ encN (is.take k)).length ≤ 80000) := fun k => by
        have t1 := EL.out kn
        rw [L.out] at t1
        have t3 := encN_le (is.take k) (fun x hx => KB.out x (List.mem_of_mem_take hx))
        have t5 : (is.take k).length ≤ 2001 := by have := LL.out.2; simp; omega
        show _ ≤ 80000
        rw [List.length_append]
        omega
      have Q := hE.out
      rw [L.out] at Q
      have Z : encH false kn ++ encK ks = encH false kn ++ encK ks ++ encN (is.take 0) := by simp [encN]
      rw [Z] at Q
      have hE2 : Hid _ := Q
      clear Q Z
      clear hE
      go_wp2_with fail
      go_loopg [3, 52] im (fun g bv iv wr => ∃ k : Nat, k ≤ im ∧ g = im - k ∧ iv = .int .i64 (k : Nat) ∧ Hid (EI w (w.heap.size + 1) w.heap.size (.bool false) (.slice ka kn kc) (.slice va vn vc) (.slice ia im ic) ka kn kc (sv ks) ia im ic (kv is) bv (encH false kn ++ encK ks ++ encN (is.take k)) wr))
      case atStart => exact ⟨0, Nat.zero_le _, rfl, rfl, hE2.out⟩
      case round =>
        obtain ⟨k, hk, rfl, rfl, hE⟩ := hrel
        by_cases c : k < im
        · have c' : (k : Int) < (im : Int) := by omega
          obtain ⟨b, o, rfl, _⟩ := hE.out.oth.at (by omega)
          have e1 := hE.out.oth.num c
          have KL : is.getD k 0 < 18446744073709551616 := KB.out _ (by
            have : k < is.length := by have := LL.out; omega
            simp [List.getD, this])
          have K : Hid _ := pU_any none 0 0 (is.getD k 0) [] wr (By.empty wr) (by omega) KL
          have SN : Hid _ := encN_snoc (ks := is) (k := k) (by have := LL.out; omega)
          have L2 : Hid ((enc (is.getD k 0)).length ≤ 10) := enc_len10 KL
          generalize is.getD k 0 = s at *
          rw [List.nil_append] at K
          generalize enc s = it at *
          go_wp2_with (first | (go_at_call 50; refine Calls.mono K.out ?_; rintro e w3 ⟨⟨v3, rfl, o3⟩, bl3⟩; obtain ⟨a3, cap3, rfl, y3, s3, hh3⟩ := o3.by) | (at_builtin; refine wpList_append_ba rfl (.tmp 56) (.tmp 58) rfl (w.heap.size + 1) _ (encH false kn ++ encK ks ++ encN (is.take k)) rfl (hE.out.own.below bl3) a3 _ cap3 it rfl y3 (by have := L2.out; have := EL2.out k; omega) (Nat.le_trans hE.out.bas bl3.size) ?_; intro v4 w4 o4 g4 l4))
          go_roundg (im - (k + 1))
          case measure => omega
          case rel =>
            refine ⟨k + 1, by omega, rfl, by go_num, ?_⟩
            rw [SN.out, ← List.append_assoc]
            exact hE.out.step bl3 o4 g4 l4
        · obtain rfl : im = k := by omega
          have L : Hid (encN (is.take im) = encN is) := by show _ = _; rw [List.take_of_length_le (by have := LL.out; omega)]
          go_wp2
          go_ret
          have O := hE.out.own
          rw [L.out, List.append_assoc] at O
          exact ⟨⟨_, rfl, O.mono (by omega)⟩, hE.out.bel⟩

theorem Encode_any (v : Value) (p : Pg) (w : World) (h : Pv w v p) (f : Fit p) : Calls Try.prog 18 #[v] w fun e w' => New w w' e (encP p) := by
  cases hl : p.leaf with
  | true => exact Encode_leaf v p w h f hl
  | false => exact Encode_branch v p w h f hl
theorem encP_len {p : Pg} (f : Fit p) : (encP p).length ≤ 90000 := by
  have t4 := enc_len10 (u := p.keys.length) (by have := f.keys; omega)
  have b1 := f.keys
  have b2 := f.tk
  have b3 := f.tv
  have b4 := f.kids
  cases hl : p.leaf with
  | true =>
    rw [encP_leaf hl, List.length_append]
    have := encI_le p.keys p.vals (by omega) (by omega)
    unfold encH
    rw [List.length_cons]
    omega
  | false =>
    rw [encP_branch hl, List.length_append, List.length_append]
    have := encK_le p.keys (by omega)
    have := encN_le p.kids f.kid
    unfold encH
    rw [List.length_cons]
    omega
theorem Bytes_any (v : Value) (p : Pg) (w : World) (h : Pv w v p) (f : Fit p) : Calls Try.prog 28 #[v] w fun e w' => e = .returned (.int .i64 ((encP p).length : Nat)) ∧ Below w.heap.size w w' := by
  have K : Hid _ := fun o => Encode_any v p (w.alloc o) (h.below (allocB w o)) f
  have L : Hid _ := encP_len f
  obtain ⟨ka, kn, kc, va, vn, vc, ia, im, ic, rfl, h1, h2, h3⟩ := h.ex
  clear h h1 h2 h3 f
  go_enter Try.func28, Try.ntmps28
  go_wp2_with fail
  refine Calls.mono (K.out _) ?_
  rintro e w1 ⟨⟨v1, rfl, o1⟩, b1⟩
  obtain ⟨a1, cap1, rfl, y1, s1, hh1⟩ := o1.by
  go_wp2
  go_ret
  exact ⟨rfl, nextB (allocB w _) b1⟩

end Go.Proofs.Ythdjghmipepppaa

namespace Go.Proofs.Ythdjghmipepppaa
open Go.RowKit
set_option linter.unusedVariables false
set_option linter.unusedSimpArgs false

theorem drewB (w : World) (n : Nat) : Below w.heap.size w (w.drewN n) := below_drewN (Below.refl _ _) n

end Go.Proofs.Ythdjghmipepppaa

namespace Go.Proofs.Ythdjghmipepppaa
open Go.RowKit
set_option linter.unusedVariables false
set_option linter.unusedSimpArgs false

/-- Texts that may be read: what the row says of each. -/
def Short (ss : List ByteArray) : Prop := ∀ i, (kAt ss i).size ≤ 140737488351232
/-- A page that is asked of. -/
structure Small (p : Pg) : Prop where
  keys : p.keys.length ≤ 60
  vals : p.vals.length ≤ 60
  kids : p.kids.length ≤ 60
  tot : tot p.keys + tot p.vals ≤ 9000

end Go.Proofs.Ythdjghmipepppaa

