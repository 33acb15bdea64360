/- The walks over package lex, on: figure, dotted, percent, behindDot. -/
import Derived.Test.YtobolipjgkabhaaDoorL2
import Derived.Laws.Concat
namespace Go.Proofs.YtobolipjgkabhaaDoor
open Go.RowKit
set_option linter.unusedVariables false
set_option linter.unusedSimpArgs false

theorem bnet {a b : Int} (h : a ≠ b) : (a != b) = true := by simp [bne, h]
def sat (n : Nat) : Nat := min n 4503599627370497
theorem fig_ge (l : List UInt8) : ∀ n, n ≤ fig n l := by
  induction l with
  | nil => intro n; exact Nat.le_refl _
  | cons c l ih => intro n; have := ih (10 * n + (c.toNat - 48)); unfold fig; omega
theorem fig_mono (l : List UInt8) : ∀ {n m}, n ≤ m → fig n l ≤ fig m l := by
  induction l with
  | nil => intro n m h; exact h
  | cons c l ih => intro n m h; exact ih (by omega)
theorem fig_sat (n : Nat) (l : List UInt8) : sat (fig (sat n) l) = sat (fig n l) := by
  unfold sat
  by_cases h : n ≤ 4503599627370497
  · rw [Nat.min_eq_left h]
  · have h1 := fig_ge l n
    have h2 := fig_ge l (min n 4503599627370497)
    omega
def AllD (s : ByteArray) : Prop := ∀ c ∈ s.data.toList, dgB c.toNat = true
theorem bt_mem {s : ByteArray} {k : Nat} (h : k < s.size) : bt s k ∈ s.data.toList := by
  rw [← bt_at h]
  exact Array.mem_toList_iff.2 (Array.getElem_mem h)
def figN (n : Nat) (s : ByteArray) : Nat := sat (fig n (tl s 0))
theorem fig_cons {s : ByteArray} {k n : Nat} (h : k < s.size) : fig n (tl s k) = fig (10 * n + ((bt s k).toNat - 48)) (tl s (k + 1)) := by
  rw [tl_cons h]
  rfl

set_option maxHeartbeats 1000000 in
theorem figure_q (s : ByteArray) (n : Nat) (w : World) (hn : n ≤ 4503599627370497) (hd : AllD s) (hs : s.size < 9223372036854775807) :
    Calls Tryd.prog 27 #[.int .i64 (n : Nat), .string s] w fun e w' => e = .returned (.int .i64 (figN n s : Nat)) ∧ w = w' := by
  have HD : Hid _ := hd
  clear hd
  go_enter Tryd.func27, Tryd.ntmps27
  go_wp2_with fail
  go_loopg [0, 8] s.size (fun g nv iv wr => ∃ k m : Nat, k ≤ s.size ∧ g = s.size - k ∧ m ≤ 4503599627370497 ∧ nv = .int .i64 (m : Nat) ∧ iv = .int .i64 (k : Nat) ∧ w = wr ∧ Hid (sat (fig m (tl s k)) = figN n s))
  case atStart => exact ⟨0, n, Nat.zero_le _, rfl, hn, rfl, rfl, rfl, rfl⟩
  case round =>
    obtain ⟨k, m, hk, rfl, hm, rfl, rfl, rfl, hr⟩ := hrel
    by_cases q : k < s.size
    · have q' : (k : Int) < (s.size : Int) := by omega
      have xi := congrArg (fun c : UInt8 => (c.toNat : Int)) (bt_at q)
      obtain ⟨d0, d1⟩ := dgB_of (HD.out _ (bt_mem q))
      have HX : Hid _ := (by rw [fig_sat, ← fig_cons q]; exact hr.out : sat (fig (sat (10 * m + ((bt s k).toNat - 48))) (tl s (k + 1))) = figN n s)
      obtain ⟨c, hc⟩ : ∃ c : Nat, c = (bt s k).toNat - 48 := ⟨_, rfl⟩
      have hc' : ((bt s k).toNat : Int) = c + 48 := by omega
      rw [hc'] at xi
      rw [← hc] at HX
      have c9 : c ≤ 9 := by omega
      clear hc hc' d0 d1
      by_cases z : 10 * m + c ≤ 4503599627370497
      · have z' : 10 * (m : Int) + (c : Int) ≤ 4503599627370497 := by omega
        have hz : sat (10 * m + c) = 10 * m + c := Nat.min_eq_left z
        rw [hz] at HX
        clear hz
        go_wp2_with fail
        all_goals go_roundg (s.size - (k + 1))
        all_goals first | omega | exact ⟨k + 1, 10 * m + c, by omega, rfl, z, by congr 1, by rw [Int.natCast_add]; rfl, rfl, HX⟩
      · have z' : ¬ 10 * (m : Int) + (c : Int) ≤ 4503599627370497 := by omega
        have hz : sat (10 * m + c) = 4503599627370497 := Nat.min_eq_right (by omega)
        rw [hz] at HX
        clear hz
        go_wp2_with fail
        all_goals go_roundg (s.size - (k + 1))
        all_goals first | omega | exact ⟨k + 1, 4503599627370497, by omega, rfl, by omega, by congr 1, by rw [Int.natCast_add]; rfl, rfl, HX⟩
    · have HX : Hid _ := (by rw [← hr.out, tl_nil (by omega)]; unfold sat fig; omega : figN n s = m)
      have q' : ¬ (k : Int) < (s.size : Int) := by omega
      go_wp2_with fail
      go_ret
      exact ⟨by rw [HX.out]; rfl, rfl⟩

theorem figure_any (s : ByteArray) (n : Nat) (w : World) (hn : n ≤ 4503599627370497) (hd : AllD s) (hs : s.size < 9223372036854775807) :
    Calls Tryd.prog 27 #[.int .i64 (n : Nat), .string s] w fun e w' => e = .returned (.int .i64 (figN n s : Nat)) ∧ Below w.heap.size w w' :=
  (figure_q s n w hn hd hs).mono fun e w' h => ⟨h.1, h.2 ▸ Below.refl _ _⟩

/-- where a dot and all the digits behind it end -/
def dotE (s : ByteArray) (a : Nat) : Nat := a + dotW (tl s a)
theorem dotE_no {s : ByteArray} {a : Nat} (h : a < s.size) (h' : (bt s a).toNat ≠ 46) : dotE s a = a := by
  unfold dotE dotW
  rw [tl_cons h, if_neg (by intro c; exact h' c.1)]
  rfl
theorem dotE_nil {s : ByteArray} {a : Nat} (h : s.size ≤ a) : dotE s a = a := by
  unfold dotE dotW
  rw [tl_nil h, if_neg (by intro c; exact absurd c.1 (by decide))]
  rfl
theorem dotE_yes {s : ByteArray} {a : Nat} (h : a < s.size) (h' : (bt s a).toNat = 46) : dotE s a = if dEnd s (a + 1) = a + 1 then a else dEnd s (a + 1) := by
  unfold dotE dotW dEnd
  rw [tl_cons h]
  show (a + if (bt s a).toNat = 46 ∧ runD (tl s (a + 1)) ≠ 0 then 1 + runD (tl s (a + 1)) else 0) = _
  by_cases z : runD (tl s (a + 1)) = 0
  · rw [if_neg (by intro c; exact c.2 z), if_pos (by omega)]; rfl
  · rw [if_pos ⟨h', z⟩, if_neg (by omega)]; omega
theorem dotE_le {s : ByteArray} {a : Nat} (h : a ≤ s.size) : a ≤ dotE s a ∧ dotE s a ≤ s.size := by
  by_cases c : a < s.size
  · by_cases d : (bt s a).toNat = 46
    · have := dEnd_le (s := s) (a := a + 1) c
      have : a + 1 ≤ dEnd s (a + 1) := by unfold dEnd; omega
      rw [dotE_yes c d]
      split <;> omega
    · rw [dotE_no c d]; omega
  · rw [dotE_nil (by omega)]; omega

set_option maxHeartbeats 1000000 in
theorem dotted_any (s : ByteArray) (a : Nat) (w : World) (ha : a ≤ s.size) (hs : s.size < 9223372036854775807) :
    Calls Tryd.prog 42 #[.string s, .int .i64 (a : Nat)] w fun e w' => e = .returned (.int .i64 (dotE s a : Nat)) ∧ Below w.heap.size w w' := by
  by_cases q : a < s.size
  · have q' : ((a : Int) == (s.size : Int)) = false := beqf (by omega)
    have xi := congrArg (fun c : UInt8 => (c.toNat : Int)) (bt_at q)
    by_cases d : (bt s a).toNat = 46
    · have d' : ((bt s a).toNat : Int) = 46 := by omega
      rw [d'] at xi
      have E : Hid _ := dotE_yes q d
      have e1 : Hid _ := dEnd_le (s := s) (a := a + 1) q
      have K := fun w => digits_any s (a + 1) w (by omega) hs
      rw [Int.natCast_add] at K
      have KH : Hid _ := K
      clear d d' K
      by_cases z : dEnd s (a + 1) = a + 1
      · have z' : ((dEnd s (a + 1) : Nat) : Int) = (a : Int) + 1 := by omega
        have E2 : Hid _ := (by rw [E.out, if_pos z] : dotE s a = a)
        go_enter Tryd.func42, Tryd.ntmps42
        go_wp2_with (go_at_call 25; refine Calls.mono (KH.out _) ?_; rintro e w5 ⟨rfl, hb5⟩)
        go_ret
        exact ⟨by rw [E2.out]; rfl, hb5⟩
      · have z' : (((dEnd s (a + 1) : Nat) : Int) == (a : Int) + 1) = false := beqf (by omega)
        have E2 : Hid _ := (by rw [E.out, if_neg z] : dotE s a = dEnd s (a + 1))
        generalize dEnd s (a + 1) = D at *
        go_enter Tryd.func42, Tryd.ntmps42
        go_wp2_with (go_at_call 25; refine Calls.mono (KH.out _) ?_; rintro e w5 ⟨rfl, hb5⟩)
        go_ret
        exact ⟨by rw [E2.out]; rfl, hb5⟩
    · have d' : (((bt s a).toNat : Int) != 46) = true := bnet (by omega)
      have E2 : Hid _ := dotE_no q d
      go_enter Tryd.func42, Tryd.ntmps42
      go_wp2_with fail
      go_ret
      exact ⟨by rw [E2.out]; rfl, Below.refl _ _⟩
  · obtain rfl : a = s.size := by omega
    have E2 : Hid _ := dotE_nil (s := s) (a := s.size) (Nat.le_refl _)
    go_enter Tryd.func42, Tryd.ntmps42
    go_wp2_with fail
    go_ret
    exact ⟨by rw [E2.out]; rfl, Below.refl _ _⟩

/-- where a rate's digits end; whether its sign stands there -/
def pctE (s : ByteArray) (a : Nat) : Nat := a + pctW (tl s a)
def pctB (s : ByteArray) (a : Nat) : Bool := decide (hd (tl s (pctE s a)) = 37)
theorem pctE_is (s : ByteArray) (a : Nat) : pctE s a = if dotE s a ≤ a + 5 then dotE s a else a := by
  unfold pctE pctW dotE
  by_cases h : dotW (tl s a) ≤ 5
  · rw [if_pos h, if_pos (by omega)]
  · rw [if_neg h, if_neg (by omega)]; rfl
theorem pctE_le {s : ByteArray} {a : Nat} (h : a ≤ s.size) : a ≤ pctE s a ∧ pctE s a ≤ s.size := by
  have := dotE_le h
  rw [pctE_is]
  split <;> omega
theorem pctB_nil {s : ByteArray} {a : Nat} (h : s.size ≤ pctE s a) : pctB s a = false := by
  unfold pctB
  rw [tl_nil h]
  rfl
theorem pctB_cons {s : ByteArray} {a : Nat} (h : pctE s a < s.size) : pctB s a = (((bt s (pctE s a)).toNat : Int) == 37) := by
  unfold pctB
  rw [tl_cons h]
  show decide ((bt s (pctE s a)).toNat = 37) = _
  rw [Bool.eq_iff_iff]
  simp
  omega

set_option maxHeartbeats 1000000 in
theorem percent_any (s : ByteArray) (a : Nat) (w : World) (ha : a ≤ s.size) (hs : s.size < 9223372036854775807) :
    Calls Tryd.prog 26 #[.string s, .int .i64 (a : Nat)] w fun e w' => e = .returned (.tuple #[.int .i64 ((pctE s a : Nat) + 1), .bool (pctB s a)]) ∧ Below w.heap.size w w' := by
  have KH : Hid _ := fun w => dotted_any s a w ha hs
  obtain ⟨l0, l1⟩ := dotE_le ha
  have E : Hid _ := pctE_is s a
  obtain ⟨m0, m1⟩ := pctE_le ha
  have N : Hid _ := fun h => pctB_nil (s := s) (a := a) h
  have C : Hid _ := fun h => pctB_cons (s := s) (a := a) h
  generalize pctB s a = B at *
  generalize pctE s a = P at *
  generalize dotE s a = D at *
  by_cases z : D ≤ a + 5
  · rw [if_pos z] at E
    obtain rfl := E.out
    have z' : (P : Int) - (a : Int) ≤ 5 := by omega
    clear E
    by_cases q : P < s.size
    · have q' : (P : Int) < (s.size : Int) := by omega
      have xi := congrArg (fun c : UInt8 => (c.toNat : Int)) (bt_at q)
      have hB := C.out q
      clear C N
      go_enter Tryd.func26, Tryd.ntmps26
      go_upto_region 4 with (go_at_call 42; refine Calls.mono (KH.out _) ?_; rintro e w5 ⟨rfl, hb5⟩)
      go_quiet (fail)
      go_wp2_with fail
      go_ret2
      exact ⟨by rw [hB]; rfl, nextB hb5 (below_drewN _ _)⟩
    · have q' : decide ((P : Int) < (s.size : Int)) = false := decide_eq_false (by omega)
      have hB := N.out (by omega)
      clear C N
      go_enter Tryd.func26, Tryd.ntmps26
      go_upto_region 4 with (go_at_call 42; refine Calls.mono (KH.out _) ?_; rintro e w5 ⟨rfl, hb5⟩)
      go_quiet (fail)
      go_wp2_with fail
      go_ret2
      exact ⟨by rw [hB]; rfl, nextB hb5 (below_drewN _ _)⟩
  · rw [if_neg z] at E
    obtain rfl := E.out
    have z' : ¬ (D : Int) - (P : Int) ≤ 5 := by omega
    clear E
    by_cases q : P < s.size
    · have q' : (P : Int) < (s.size : Int) := by omega
      have xi := congrArg (fun c : UInt8 => (c.toNat : Int)) (bt_at q)
      have hB := C.out q
      clear C N
      go_enter Tryd.func26, Tryd.ntmps26
      go_upto_region 4 with (go_at_call 42; refine Calls.mono (KH.out _) ?_; rintro e w5 ⟨rfl, hb5⟩)
      go_quiet (fail)
      go_wp2_with fail
      go_ret2
      exact ⟨by rw [hB]; rfl, nextB hb5 (below_drewN _ _)⟩
    · exact absurd l1 (by omega)

theorem cat_data (s t : ByteArray) : (s ++ t).data.toList = s.data.toList ++ t.data.toList := by
  rw [ByteArray.data_append]; exact Array.toList_append
theorem ext_data (s : ByteArray) (a b : Nat) : (s.extract a b).data.toList = (s.data.toList.drop a).take (b - a) := by
  rw [ByteArray.data_extract]
  simp [List.extract_eq_take_drop]
theorem tx_data (s : ByteArray) : tx s.data.toList = s := by cases s; simp [tx]
theorem ext_is (s : ByteArray) (a b : Nat) : s.extract a b = tx ((tl s a).take (b - a)) := by
  rw [← tx_data (s.extract a b), ext_data]
  rfl

set_option maxHeartbeats 1000000 in
theorem behind_any (l : List UInt8) (w : World) (hs : l.length < 100) :
    Calls Tryd.prog 28 #[.string (tx l)] w fun e w' => e = .returned (.string (tx (pad4 (l.drop 1)))) ∧ w = w' := by
  cases l with
  | nil =>
    show Calls Tryd.prog 28 #[.string ⟨#[]⟩] w fun e w' => e = .returned (.string ⟨#[48, 48, 48, 48]⟩) ∧ w = w'
    go_enter Tryd.func28, Tryd.ntmps28
    go_wp2_with fail
    go_ret
    exact ⟨rfl, rfl⟩
  | cons c l =>
    generalize hp : tx (c :: l) = p
    have e1 : p.size = l.length + 1 := by rw [← hp]; simp [tx, ByteArray.size]
    have e3 : p.toList.isEmpty = false := by rw [ByteArray.toList_eq, ← hp]; rfl
    have e4 : l.length < 99 := by simp at hs; omega
    clear hs
    go_enter Tryd.func28, Tryd.ntmps28
    go_wp2_with fail
    go_ret
    refine ⟨?_, rfl⟩
    show Ending.returned (.string ((p.extract 1 (l.length + 1) ++ ⟨#[48, 48, 48, 48]⟩).extract 0 4)) = _
    rw [← tx_data ((p.extract 1 (l.length + 1) ++ ⟨#[48, 48, 48, 48]⟩).extract 0 4), ext_data, cat_data, ext_data, ← hp]
    have e5 : List.take (l.length + 1 - 1) (List.drop 1 (tx (c :: l)).data.toList) = l := by simp [tx]
    rw [e5]
    rfl
end Go.Proofs.YtobolipjgkabhaaDoor
