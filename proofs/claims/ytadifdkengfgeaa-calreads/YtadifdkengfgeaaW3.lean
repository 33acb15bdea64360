/- The walks over package cal, on: months on and back; the next day. -/
import Derived.Test.YtadifdkengfgeaaW2
namespace Go.Proofs.Ytadifdkengfgeaa
open Go.RowKit
set_option linter.unusedVariables false

def mY (y m k : Int) : Int := (12 * y + m - 1 + k) / 12
def mM (y m k : Int) : Int := (12 * y + m - 1 + k) % 12 + 1
def mD (y m d k : Int) : Int := min d (days (mY y m k) (mM y m k))
/-- There is such a month. -/
def mB (y m k : Int) : Prop := 1900 ≤ mY y m k ∧ mY y m k ≤ 2199

theorem mM_in (y m k : Int) : 1 ≤ mM y m k ∧ mM y m k ≤ 12 := by unfold mM; omega
theorem mD_in {n y m d k : Int} (h : IsDate n y m d) : 1 ≤ mD y m d k ∧ mD y m d k ≤ days (mY y m k) (mM y m k) := by
  have a := mM_in y m k
  have b := days_28 (y := mY y m k) a.1 a.2
  have := h.d0
  unfold mD
  omega
theorem months_date {n y m d k : Int} (h : IsDate n y m d) (b : mB y m k) : IsDate (dayN (mY y m k) (mM y m k) (mD y m d k)) (mY y m k) (mM y m k) (mD y m d k) := by
  have e := mD_in (k := k) h
  exact isDate_of ((dateB_iff _ _ _).2 ⟨b.1, b.2, e.1, e.2⟩)

set_option maxHeartbeats 1000000 in
theorem months_none (n k : Int) (w : World) (h : dayB n = false) :
    Calls Try.prog 11 #[.int .i64 n, .int .i64 k] w fun e w' => e = .returned (.tuple #[.int .i64 0, .bool false]) ∧ w = w' := by
  go_enter Try.func11, Try.ntmps11
  go_wp2_with (go_at_call 13; refine (date_no _ _ h).mono ?_; rintro e w' ⟨rfl, rfl⟩)
  go_ret2
  exact ⟨rfl, rfl⟩

theorem date_is {n y m d : Int} (w : World) (h : IsDate n y m d) :
    Calls Try.prog 13 #[.int .i64 n] w fun e w' => e = .returned (.tuple #[.int .i64 y, .int .i64 m, .int .i64 d, .bool true]) ∧ w = w' := by
  have b := h.bd
  refine (date_yes n w (dayB_yes b.1 b.2)).mono ?_
  rintro e w' ⟨⟨y', m', d', rfl, h'⟩, rfl⟩
  obtain ⟨rfl, rfl, rfl⟩ := h.uniq h'
  exact ⟨rfl, rfl⟩

set_option maxHeartbeats 1000000 in
theorem months_out {n y m d : Int} (k : Int) (w : World) (h : IsDate n y m d) (hk : I64 k) (b : ¬ mB y m k) :
    Calls Try.prog 11 #[.int .i64 n, .int .i64 k] w fun e w' => e = .returned (.tuple #[.int .i64 0, .bool false]) ∧ w = w' := by
  obtain ⟨y0, y1, m0, m1, d0, d1, eq⟩ := id h
  obtain ⟨k0, k1⟩ := hk
  clear eq d0 d1
  by_cases c : k < -((y - 1900) * 12 + m - 1)
  · clear b
    go_enter Try.func11, Try.ntmps11
    go_wp2_with (go_at_call 13; refine (date_is _ h).mono ?_; rintro e w' ⟨rfl, rfl⟩)
    go_ret2
    exact ⟨rfl, rfl⟩
  · have c2 : k ≥ 3600 - ((y - 1900) * 12 + m - 1) := by unfold mB mY at b; omega
    clear b
    go_enter Try.func11, Try.ntmps11
    go_wp2_with (go_at_call 13; refine (date_is _ h).mono ?_; rintro e w' ⟨rfl, rfl⟩)
    go_ret2
    exact ⟨rfl, rfl⟩

theorem of_eq (y m : Int) {d d' : Int} (w : World) (hy : I64 y) (hd : d' = d) :
    Calls Try.prog 10 #[.int .i64 y, .int .i64 m, .int .i64 d'] w fun e w' => e = .returned (.tuple #[.int .i64 (dayN y m d), .bool (dateB y m d)]) ∧ w = w' := by
  subst hd
  exact of_any y m d' w hy

set_option maxHeartbeats 1000000 in
theorem months_in {n y m d : Int} (k : Int) (w : World) (h : IsDate n y m d) (b : mB y m k) :
    Calls Try.prog 11 #[.int .i64 n, .int .i64 k] w fun e w' => e = .returned (.tuple #[.int .i64 (dayN (mY y m k) (mM y m k) (mD y m d k)), .bool true]) ∧ w = w' := by
  obtain ⟨y0, y1, m0, m1, d0, d1, eq⟩ := id h
  have hd := (months_date h b).dateB
  have B : mB y m k := b
  obtain ⟨b0, b1⟩ := b
  have EY : Hid (mY y m k = 1900 + ((y - 1900) * 12 + m - 1 + k) / 12) := (by unfold mY; omega : mY y m k = 1900 + ((y - 1900) * 12 + m - 1 + k) / 12)
  have EM : Hid (mM y m k = ((y - 1900) * 12 + m - 1 + k) % 12 + 1) := (by unfold mM; omega : mM y m k = ((y - 1900) * 12 + m - 1 + k) % 12 + 1)
  have c : ¬ k < -((y - 1900) * 12 + m - 1) := by unfold mY at b0; omega
  have c2 : ¬ k ≥ 3600 - ((y - 1900) * 12 + m - 1) := by unfold mY at b1; omega
  have hy : I64 (mY y m k) := ⟨by omega, by omega⟩
  have dl := days_le (mY y m k) (mM y m k)
  have dg := days_ge (mY y m k) (mM y m k)
  have HD : Hid _ := hd
  have HY : Hid _ := hy
  clear eq hd hy dl dg b0 b1 B
  by_cases c3 : days (mY y m k) (mM y m k) < d
  · have md : Hid (days (mY y m k) (mM y m k) = mD y m d k) := (by unfold mD; omega : days (mY y m k) (mM y m k) = mD y m d k)
    go_enter Try.func11, Try.ntmps11
    go_wp2_with (first | (go_at_call 13; refine (date_is _ h).mono ?_; rintro e w' ⟨rfl, rfl⟩) | (go_at_call 16; rw [← EY.out, ← EM.out]; refine (days_any _ _ _ HY.out).mono ?_; rintro e w' ⟨rfl, rfl⟩) | (go_at_call 10; refine (of_eq _ _ _ HY.out md.out).mono ?_; rintro e w' ⟨rfl, rfl⟩))
    all_goals first | (exfalso; omega) | skip
    go_ret2
    exact ⟨retIB rfl HD.out, rfl⟩
  · have md : Hid (d = mD y m d k) := (by unfold mD; omega : d = mD y m d k)
    go_enter Try.func11, Try.ntmps11
    go_wp2_with (first | (go_at_call 13; refine (date_is _ h).mono ?_; rintro e w' ⟨rfl, rfl⟩) | (go_at_call 16; rw [← EY.out, ← EM.out]; refine (days_any _ _ _ HY.out).mono ?_; rintro e w' ⟨rfl, rfl⟩) | (go_at_call 10; refine (of_eq _ _ _ HY.out md.out).mono ?_; rintro e w' ⟨rfl, rfl⟩))
    all_goals first | (exfalso; omega) | skip
    go_ret2
    exact ⟨retIB rfl HD.out, rfl⟩
end Go.Proofs.Ytadifdkengfgeaa
