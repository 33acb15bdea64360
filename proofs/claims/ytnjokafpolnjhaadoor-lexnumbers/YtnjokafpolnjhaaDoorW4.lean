/- The walks over package cal, on: figures in a field, a day's text. -/
import Derived.Test.YtnjokafpolnjhaaDoorW3
import Derived.Laws.BytesArg
import Derived.Lib.SlBytesConst
namespace Go.Proofs.YtnjokafpolnjhaaDoor
open Go.RowKit
set_option linter.unusedVariables false
set_option linter.unusedSimpArgs false

def upd (f : Nat → Int) (j : Nat) (v : Int) : Nat → Int := fun i => if i = j then v else f i

/-- Ten bytes in memory. -/
structure R10 (w : World) (b : Nat) (f : Nat → Int) : Prop where
  c : ∀ i, i < 10 → w.cell? ⟨b, i, none⟩ = some (.int .u8 (f i))
  fz : ∀ o, o < 10 → w.frozen? ⟨b, o, none⟩ = false

theorem R10.set {w : World} {b : Nat} {f : Nat → Int} (h : R10 w b f) (j : Nat) (hj : j < 10) (v : Int) : R10 (w.setCell ⟨b, j, none⟩ (.int .u8 v)) b (upd f j v) := by
  refine ⟨fun i hi => ?_, fun o ho => by simpa using h.fz o ho⟩
  unfold upd
  by_cases e : i = j
  · subst e
    rw [if_pos rfl]
    exact World.cell?_setCell_same _ _ _ (h.c i hi)
  · have ne : (⟨b, i, none⟩ : Addr) ≠ ⟨b, j, none⟩ := fun k => e (by injection k)
    rw [if_neg e]
    first | exact (World.cell?_setCell_other _ _ _ _ ne).trans (h.c i hi) | exact (World.cell?_setCell_other _ _ _ _ ne.symm).trans (h.c i hi)

/-- A day's ten bytes. -/
def dtext (y m d : Int) : List Int := [48 + y / 10 / 10 / 10 % 10, 48 + y / 10 / 10 % 10, 48 + y / 10 % 10, 48 + y % 10, 45, 48 + m / 10 % 10, 48 + m % 10, 45, 48 + d / 10 % 10, 48 + d % 10]
def pat : Nat → Int := fun i => if i = 4 ∨ i = 7 then 45 else 48

def patCells : Array Value := #[.int .u8 48, .int .u8 48, .int .u8 48, .int .u8 48, .int .u8 45, .int .u8 48, .int .u8 48, .int .u8 45, .int .u8 48, .int .u8 48]

theorem lt10 {P : Nat → Prop} (h0 : P 0) (h1 : P 1) (h2 : P 2) (h3 : P 3) (h4 : P 4) (h5 : P 5) (h6 : P 6) (h7 : P 7) (h8 : P 8) (h9 : P 9) (i : Nat) (hi : i < 10) : P i := by
  match i, hi with
  | 0, _ => exact h0
  | 1, _ => exact h1
  | 2, _ => exact h2
  | 3, _ => exact h3
  | 4, _ => exact h4
  | 5, _ => exact h5
  | 6, _ => exact h6
  | 7, _ => exact h7
  | 8, _ => exact h8
  | 9, _ => exact h9
  | i + 10, hi => exact absurd hi (by omega)

end Go.Proofs.YtnjokafpolnjhaaDoor
