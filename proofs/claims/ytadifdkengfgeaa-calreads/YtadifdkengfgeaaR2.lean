/- The walks over package publicanref1, on: months on, a day's text. -/
import Derived.Test.YtadifdkengfgeaaR1
import Derived.Test.YtadifdkengfgeaaW6
import Derived.Laws.Concat
namespace Go.Proofs.Ytadifdkengfgeaa
open Go.RowKit
set_option linter.unusedVariables false

theorem rdate_is {n y m d : Int} (w : World) (h : IsDate n y m d) :
    Calls Try.prog 17 #[.int .i64 n] w fun e w' => e = .returned (.tuple #[.int .i64 y, .int .i64 m, .int .i64 d, .bool true]) ∧ w = w' := by
  have b := h.bd
  refine (rdate_yes n w (dayB_yes b.1 b.2)).mono ?_
  rintro e w' ⟨⟨y', m', d', rfl, h'⟩, rfl⟩
  obtain ⟨rfl, rfl, rfl⟩ := h.uniq h'
  exact ⟨rfl, rfl⟩

set_option maxHeartbeats 1000000 in
theorem rmonths_none (n k : Int) (w : World) (h : dayB n = false) :
    Calls Try.prog 19 #[.int .i64 n, .int .i64 k] w fun e w' => e = .returned (.tuple #[.int .i64 0, .bool false]) ∧ w = w' := by
  go_enter Try.func19, Try.ntmps19
  go_wp2_with (go_at_call 17; refine (rdate_no _ _ h).mono ?_; rintro e w' ⟨rfl, rfl⟩)
  go_ret2
  exact ⟨rfl, rfl⟩

set_option maxHeartbeats 1000000 in
theorem rmonths_far {n y m d : Int} (k : Int) (w : World) (h : IsDate n y m d) (b : k > 4000 ∨ k < -4000) :
    Calls Try.prog 19 #[.int .i64 n, .int .i64 k] w fun e w' => e = .returned (.tuple #[.int .i64 0, .bool false]) ∧ w = w' := by
  by_cases c : k > 4000
  · clear b
    go_enter Try.func19, Try.ntmps19
    go_wp2_with (go_at_call 17; refine (rdate_is _ h).mono ?_; rintro e w' ⟨rfl, rfl⟩)
    go_ret2
    exact ⟨rfl, rfl⟩
  · have c2 : k < -4000 := by omega
    clear b
    go_enter Try.func19, Try.ntmps19
    go_wp2_with (go_at_call 17; refine (rdate_is _ h).mono ?_; rintro e w' ⟨rfl, rfl⟩)
    go_ret2
    exact ⟨rfl, rfl⟩

set_option maxHeartbeats 1000000 in
theorem rmonths_near {n y m d : Int} (k : Int) (w : World) (h : IsDate n y m d) (c : ¬ k > 4000) (c2 : ¬ k < -4000) :
    Calls Try.prog 19 #[.int .i64 n, .int .i64 k] w fun e w' => e = .returned (.tuple #[.int .i64 (dayN (mY y m k) (mM y m k) (mD y m d k)), .bool (dateB (mY y m k) (mM y m k) (mD y m d k))]) ∧ w = w' := by
  obtain ⟨y0, y1, m0, m1, d0, d1, eq⟩ := id h
  have EY : Hid (mY y m k = (12 * y + m - 1 + k) / 12) := (rfl : mY y m k = (12 * y + m - 1 + k) / 12)
  have EM : Hid (mM y m k = (12 * y + m - 1 + k) % 12 + 1) := (rfl : mM y m k = (12 * y + m - 1 + k) % 12 + 1)
  have hy : I64 (mY y m k) := by unfold I64 mY; omega
  have HY : Hid _ := hy
  clear eq hy
  by_cases c3 : d > days (mY y m k) (mM y m k)
  · have md : Hid (days (mY y m k) (mM y m k) = mD y m d k) := (by unfold mD; omega : days (mY y m k) (mM y m k) = mD y m d k)
    go_enter Try.func19, Try.ntmps19
    go_wp2_with (first | (go_at_call 17; refine (rdate_is _ h).mono ?_; rintro e w' ⟨rfl, rfl⟩) | (go_at_call 23; (try rw [← EY.out, ← EM.out]); refine (rdays_any _ _ _ HY.out).mono ?_; rintro e w' ⟨rfl, rfl⟩) | (go_at_call 18; refine (rday_eq _ _ _ HY.out md.out).mono ?_; rintro e w' ⟨rfl, rfl⟩))
    go_ret2
    exact ⟨rfl, rfl⟩
  · have md : Hid (d = mD y m d k) := (by unfold mD; omega : d = mD y m d k)
    go_enter Try.func19, Try.ntmps19
    go_wp2_with (first | (go_at_call 17; refine (rdate_is _ h).mono ?_; rintro e w' ⟨rfl, rfl⟩) | (go_at_call 23; (try rw [← EY.out, ← EM.out]); refine (rdays_any _ _ _ HY.out).mono ?_; rintro e w' ⟨rfl, rfl⟩) | (go_at_call 18; refine (rday_eq _ _ _ HY.out md.out).mono ?_; rintro e w' ⟨rfl, rfl⟩))
    go_ret2
    exact ⟨rfl, rfl⟩

theorem rmonths_in {n y m d : Int} (k : Int) (w : World) (h : IsDate n y m d) (b : mB y m k) :
    Calls Try.prog 19 #[.int .i64 n, .int .i64 k] w fun e w' => e = .returned (.tuple #[.int .i64 (dayN (mY y m k) (mM y m k) (mD y m d k)), .bool true]) ∧ w = w' := by
  have kb : ¬ k > 4000 ∧ ¬ k < -4000 := by
    have := h.y0; have := h.y1; have := h.m0; have := h.m1
    unfold mB mY at b; omega
  have r := rmonths_near k w h kb.1 kb.2
  rw [(months_date h b).dateB] at r
  exact r
theorem rmonths_out {n y m d : Int} (k : Int) (w : World) (h : IsDate n y m d) (b : ¬ mB y m k) :
    Calls Try.prog 19 #[.int .i64 n, .int .i64 k] w fun e w' => e = .returned (.tuple #[.int .i64 0, .bool false]) ∧ w = w' := by
  by_cases kb : k > 4000 ∨ k < -4000
  · exact rmonths_far k w h kb
  · have r := rmonths_near k w h (by omega) (by omega)
    have f : dateB (mY y m k) (mM y m k) (mD y m d k) = false := by
      cases q : dateB (mY y m k) (mM y m k) (mD y m d k)
      · rfl
      · have := (dateB_iff _ _ _).1 q
        exact absurd ⟨this.1, this.2.1⟩ b
    rw [show dayN (mY y m k) (mM y m k) (mD y m d k) = 0 by unfold dayN; rw [f]; rfl, f] at r
    exact r

def twoS (n : Int) : ByteArray := strOfNums [48 + n / 10 % 10, 48 + n % 10]
theorem twoS_size (n : Int) : (twoS n).size = 2 := rfl

set_option maxHeartbeats 1000000 in
theorem two_any (n : Int) (w : World) (h0 : 0 ≤ n) (h1 : n ≤ 9999) :
    Calls Try.prog 30 #[.int .i64 n] w fun e w' => e = .returned (.string (twoS n)) ∧ Below w.heap.size w w' := by
  have kd : (convert 37 9 (.slice (some ⟨w.heap.size, 0, none⟩) 2 2)).run Try.prog (w.alloc (.cells #[.int .u8 (48 + n / 10 % 10), .int .u8 (48 + n % 10)] 5)) = .ok (.string (twoS n)) (w.alloc (.cells #[.int .u8 (48 + n / 10 % 10), .int .u8 (48 + n % 10)] 5)) :=
    run_convert_bytes_arg (P := Try.prog) (w.alloc (.cells #[.int .u8 (48 + n / 10 % 10), .int .u8 (48 + n % 10)] 5)) 37 5 Try.underlying37 Try.underlying5 w.heap.size 0 2 2 [48 + n / 10 % 10, 48 + n % 10] rfl (fun i hi => by
      have q : i = 0 ∨ i = 1 := by omega
      rcases q with rfl | rfl <;> simp) 9 Try.underlying9
  go_enter Try.func30, Try.ntmps30
  go_wp2
  go_ret
  exact ⟨rfl, (Below.refl _ _).alloc (Nat.le_refl _) _⟩

set_option maxHeartbeats 1000000 in
theorem rtext_no (n : Int) (w : World) (h : dayB n = false) :
    Calls Try.prog 20 #[.int .i64 n] w fun e w' => e = .returned (.string ByteArray.empty) ∧ w = w' := by
  go_enter Try.func20, Try.ntmps20
  go_wp2_with (go_at_call 17; refine (rdate_no _ _ h).mono ?_; rintro e w' ⟨rfl, rfl⟩)
  go_ret
  exact ⟨rfl, rfl⟩

def stroke : ByteArray := ⟨#[45]⟩
theorem join_text (y m d : Int) : ((((twoS (y / 100) ++ twoS y) ++ stroke) ++ twoS m) ++ stroke) ++ twoS d = strOfNums (dtext y m d) := by
  have e1 : y / 100 / 10 % 10 = y / 10 / 10 / 10 % 10 := by omega
  have e2 : y / 100 % 10 = y / 10 / 10 % 10 := by omega
  unfold twoS
  rw [e1, e2]
  rfl

set_option maxHeartbeats 2000000 in
theorem rtext_yes {n y m d : Int} (w : World) (h : IsDate n y m d) :
    Calls Try.prog 20 #[.int .i64 n] w fun e w' => e = .returned (.string (strOfNums (dtext y m d))) ∧ Below w.heap.size w w' := by
  obtain ⟨y0, y1, m0, m1, d0, d1, eq⟩ := id h
  have dl := days_le y m
  clear eq
  have J : Hid _ := join_text y m d
  have s1 := twoS_size (y / 100)
  have s2 := twoS_size y
  have s3 := twoS_size m
  have s4 := twoS_size d
  have s5 : (⟨#[45]⟩ : ByteArray).size = 1 := rfl
  go_enter Try.func20, Try.ntmps20
  go_wp2_with (go_at_call 17; refine (rdate_is _ h).mono ?_; rintro e w' ⟨rfl, rfl⟩)
  refine (two_any _ _ (by omega) (by omega)).mono ?_
  rintro e w1 ⟨rfl, b1⟩
  go_wp2_with fail
  refine (two_any _ _ (by omega) (by omega)).mono ?_
  rintro e w2 ⟨rfl, b2⟩
  go_wp2_with fail
  refine (two_any _ _ (by omega) (by omega)).mono ?_
  rintro e w3 ⟨rfl, b3⟩
  go_wp2_with fail
  refine (two_any _ _ (by omega) (by omega)).mono ?_
  rintro e w4 ⟨rfl, b4⟩
  have B : Hid _ := nextB (nextB (nextB b1 b2) b3) b4
  go_wp2
  go_ret
  exact ⟨by rw [← J.out]; rfl, B.out⟩
end Go.Proofs.Ytadifdkengfgeaa
