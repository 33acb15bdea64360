/- The walks over package pack, on: a Reader is made. -/
import Derived.Test.YtjkbiglnpoeddaaDoorW6
import Derived.Laws.OwnMore
namespace Go.Proofs.YtjkbiglnpoeddaaDoor
open Go.RowKit
set_option linter.unusedVariables false
set_option linter.unusedSimpArgs false

theorem own_empty (w : World) : Own (w.alloc (.cells #[] 5)) w.heap.size (.slice (some ⟨w.heap.size, 0, none⟩) 0 0) [] :=
  ⟨⟨rfl, .inr ⟨w.heap.size, 0, #[], rfl, Nat.le_refl _, heap_alloc_new w _, Nat.le_refl _, Nat.zero_le _, rfl, rfl⟩⟩, Bys.nil⟩
theorem allocB (w : World) (o : Obj) : Below w.heap.size w (w.alloc o) := (Below.refl _ _).alloc (Nat.le_refl _) _

theorem eq_nil (w : World) (a : Option Addr) (l c : Nat) : (binOp .eql 102 (.slice a l c) (.slice none 0 0)).run Tryd.prog w = .ok (.bool a.isNone) w := by
  have h : ∀ d : Nat, (Op.equalIn (d + 1) 102 (.slice a l c) (.slice none 0 0)).run Tryd.prog w = .ok a.isNone w := fun d => by
    cases a <;> simp [Op.equalIn, run_underlying Tryd.underlying102]
  simp only [binOp]
  simp [Op.equal, Op.maxDepth, h 9999]

/-- A Reader is returned. -/
def NewR (w w' : World) (e : Ending) (bs : List Int) : Prop := ∃ p q, e = .returned (.pointer (some ⟨p, 0, none⟩)) ∧ Rd w' p q false bs ∧ w.heap.size ≤ p ∧ p < w'.heap.size ∧ q < w'.heap.size ∧ Below w.heap.size w w'

end Go.Proofs.YtjkbiglnpoeddaaDoor
