/- The walks over package publicanref1, on: months on, a day's text. -/
import Derived.Test.YtiikdmnmfmfpdaaGreatDoorR1
import Derived.Test.YtiikdmnmfmfpdaaGreatDoorW6
import Derived.Laws.Concat
namespace Go.Proofs.YtiikdmnmfmfpdaaGreatDoor
open Go.RowKit
set_option linter.unusedVariables false
set_option linter.unusedSimpArgs false

theorem rdate_is {n y m d : Int} (w : World) (h : IsDate n y m d) :
    Calls Tryz.prog 82 #[.int .i64 n] w fun e w' => e = .returned (.tuple #[.int .i64 y, .int .i64 m, .int .i64 d, .bool true]) ∧ w = w' := by
  have b := h.bd
  refine (rdate_yes n w (dayB_yes b.1 b.2)).mono ?_
  rintro e w' ⟨⟨y', m', d', rfl, h'⟩, rfl⟩
  obtain ⟨rfl, rfl, rfl⟩ := h.uniq h'
  exact ⟨rfl, rfl⟩

def twoS (n : Int) : ByteArray := strOfNums [48 + n / 10 % 10, 48 + n % 10]
theorem twoS_size (n : Int) : (twoS n).size = 2 := rfl

set_option maxHeartbeats 1000000 in
theorem two_any (n : Int) (w : World) (h0 : 0 ≤ n) (h1 : n ≤ 9999) :
    Calls Tryz.prog 83 #[.int .i64 n] w fun e w' => e = .returned (.string (twoS n)) ∧ Below w.heap.size w w' := by
  have kd : (convert 62 9 (.slice (some ⟨w.heap.size, 0, none⟩) 2 2)).run Tryz.prog (w.alloc (.cells #[.int .u8 (48 + n / 10 % 10), .int .u8 (48 + n % 10)] 5)) = .ok (.string (twoS n)) (w.alloc (.cells #[.int .u8 (48 + n / 10 % 10), .int .u8 (48 + n % 10)] 5)) :=
    run_convert_bytes_arg (P := Tryz.prog) (w.alloc (.cells #[.int .u8 (48 + n / 10 % 10), .int .u8 (48 + n % 10)] 5)) 62 5 Tryz.underlying62 Tryz.underlying5 w.heap.size 0 2 2 [48 + n / 10 % 10, 48 + n % 10] rfl (fun i hi => by
      have q : i = 0 ∨ i = 1 := by omega
      rcases q with rfl | rfl <;> simp) 9 Tryz.underlying9
  go_enter Tryz.func83, Tryz.ntmps83
  go_wp2
  go_ret
  exact ⟨rfl, (Below.refl _ _).alloc (Nat.le_refl _) _⟩

set_option maxHeartbeats 1000000 in
theorem rtext_no (n : Int) (w : World) (h : dayB n = false) :
    Calls Tryz.prog 54 #[.int .i64 n] w fun e w' => e = .returned (.string ByteArray.empty) ∧ w = w' := by
  go_enter Tryz.func54, Tryz.ntmps54
  go_wp2_with (go_at_call 82; refine (rdate_no _ _ h).mono ?_; rintro e w' ⟨rfl, rfl⟩)
  go_ret
  exact ⟨rfl, rfl⟩

def stroke : ByteArray := ⟨#[45]⟩
theorem join_text (y m d : Int) : ((((twoS (y / 100) ++ twoS y) ++ stroke) ++ twoS m) ++ stroke) ++ twoS d = strOfNums (dtext y m d) := by
  have e1 : y / 100 / 10 % 10 = y / 10 / 10 / 10 % 10 := by omega
  have e2 : y / 100 % 10 = y / 10 / 10 % 10 := by omega
  unfold twoS
  rw [e1, e2]
  rfl

set_option maxHeartbeats 2000000 in
theorem rtext_yes {n y m d : Int} (w : World) (h : IsDate n y m d) :
    Calls Tryz.prog 54 #[.int .i64 n] w fun e w' => e = .returned (.string (strOfNums (dtext y m d))) ∧ Below w.heap.size w w' := by
  obtain ⟨y0, y1, m0, m1, d0, d1, eq⟩ := id h
  have dl := days_le y m
  clear eq
  have J : Hid _ := join_text y m d
  have s1 := twoS_size (y / 100)
  have s2 := twoS_size y
  have s3 := twoS_size m
  have s4 := twoS_size d
  have s5 : (⟨#[45]⟩ : ByteArray).size = 1 := rfl
  go_enter Tryz.func54, Tryz.ntmps54
  go_wp2_with (go_at_call 82; refine (rdate_is _ h).mono ?_; rintro e w' ⟨rfl, rfl⟩)
  refine (two_any _ _ (by omega) (by omega)).mono ?_
  rintro e w1 ⟨rfl, b1⟩
  go_wp2_with fail
  refine (two_any _ _ (by omega) (by omega)).mono ?_
  rintro e w2 ⟨rfl, b2⟩
  go_wp2_with fail
  refine (two_any _ _ (by omega) (by omega)).mono ?_
  rintro e w3 ⟨rfl, b3⟩
  go_wp2_with fail
  refine (two_any _ _ (by omega) (by omega)).mono ?_
  rintro e w4 ⟨rfl, b4⟩
  have B : Hid _ := nextB (nextB (nextB b1 b2) b3) b4
  go_wp2
  go_ret
  exact ⟨by rw [← J.out]; rfl, B.out⟩
end Go.Proofs.YtiikdmnmfmfpdaaGreatDoor
