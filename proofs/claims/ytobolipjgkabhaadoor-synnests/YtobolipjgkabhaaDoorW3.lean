/- The walks over package cal, on: months on and back; the next day. -/
import Derived.Test.YtobolipjgkabhaaDoorW2
namespace Go.Proofs.YtobolipjgkabhaaDoor
open Go.RowKit
set_option linter.unusedVariables false
set_option linter.unusedSimpArgs false

def mY (y m k : Int) : Int := (12 * y + m - 1 + k) / 12
def mM (y m k : Int) : Int := (12 * y + m - 1 + k) % 12 + 1
def mD (y m d k : Int) : Int := min d (days (mY y m k) (mM y m k))
/-- There is such a month. -/
def mB (y m k : Int) : Prop := 1900 ≤ mY y m k ∧ mY y m k ≤ 2199

theorem mM_in (y m k : Int) : 1 ≤ mM y m k ∧ mM y m k ≤ 12 := by unfold mM; omega
theorem mD_in {n y m d k : Int} (h : IsDate n y m d) : 1 ≤ mD y m d k ∧ mD y m d k ≤ days (mY y m k) (mM y m k) := by
  have a := mM_in y m k
  have b := days_28 (y := mY y m k) a.1 a.2
  have := h.d0
  unfold mD
  omega
theorem months_date {n y m d k : Int} (h : IsDate n y m d) (b : mB y m k) : IsDate (dayN (mY y m k) (mM y m k) (mD y m d k)) (mY y m k) (mM y m k) (mD y m d k) := by
  have e := mD_in (k := k) h
  exact isDate_of ((dateB_iff _ _ _).2 ⟨b.1, b.2, e.1, e.2⟩)

theorem date_is {n y m d : Int} (w : World) (h : IsDate n y m d) :
    Calls Tryd.prog 52 #[.int .i64 n] w fun e w' => e = .returned (.tuple #[.int .i64 y, .int .i64 m, .int .i64 d, .bool true]) ∧ w = w' := by
  have b := h.bd
  refine (date_yes n w (dayB_yes b.1 b.2)).mono ?_
  rintro e w' ⟨⟨y', m', d', rfl, h'⟩, rfl⟩
  obtain ⟨rfl, rfl, rfl⟩ := h.uniq h'
  exact ⟨rfl, rfl⟩

theorem of_eq (y m : Int) {d d' : Int} (w : World) (hy : I64 y) (hd : d' = d) :
    Calls Tryd.prog 58 #[.int .i64 y, .int .i64 m, .int .i64 d'] w fun e w' => e = .returned (.tuple #[.int .i64 (dayN y m d), .bool (dateB y m d)]) ∧ w = w' := by
  subst hd
  exact of_any y m d' w hy

end Go.Proofs.YtobolipjgkabhaaDoor
