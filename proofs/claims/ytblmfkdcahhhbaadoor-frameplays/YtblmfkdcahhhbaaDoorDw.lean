/- Package disk: Write at a told answer; bytes of a constant. -/
import Derived.Test.YtblmfkdcahhhbaaDoorD6
import Derived.Lib.SlBytesConst
namespace Go.Proofs.YtblmfkdcahhhbaaDoor
open Go.RowKit
set_option linter.unusedVariables false
set_option linter.unusedSimpArgs false

theorem by_const (w : World) (b : List Int) (hb : Bys b) (hl : b.length ≤ 1000) (fr : Nat × Nat) (t : TypeId) : By (w.alloc (.cells (vals b).toArray t fr)) (some ⟨w.heap.size, 0, none⟩) b.length b.length b := by
  refine ⟨rfl, Nat.le_refl _, by unfold maxLen; omega, fun e => by simp at e, ⟨w.heap.size, 0, fun _ => rfl, fun i hi => ?_⟩, hb⟩
  rw [cell_of_row _ _ _ _ _ _ (heap_alloc_last w _)]
  simp [vals, List.getD, List.getElem?_eq_getElem hi]

theorem Write_is {p q n : Nat} {s s' : St} {i x : Int} {a : Option Addr} {m c : Nat} {b : List Int} {w : World} (h : Dk w p q n s) (hy : By w a m c b) (hne : 0 < m → ∀ y, a = some y → y.block ≠ p ∧ y.block ≠ q) (hw : s.writes ≤ 1000000) (e1 : wE n s i b = x) (e2 : wS n s i b = s') :
    Calls Tryd.prog 22 #[.pointer (some ⟨p, 0, none⟩), .int .i64 i, .slice a m c] w fun e w' => e = .returned (.int .i64 x) ∧ Dk w' p q n s' ∧ Gr p q w w' := by
  subst e1; subst e2; exact Write_any p q n s i a m c b w h hy hne hw

end Go.Proofs.YtblmfkdcahhhbaaDoor
