/- The library's slices.Insert and slices.Delete of texts, at this program's numbers. -/
import Derived.Test.YtfedcghkohfhlaaPa
import Derived.Shelf.Spec.SlicesInsert
import Derived.Shelf.Spec.SlicesInsertGrow
import Derived.Shelf.Slices.Delete
import Derived.Shelf.Slices.Cells
import Derived.KernelRfl
namespace Go.Proofs.Ytfedcghkohfhlaa
open Go.Shelf Go.RowKit
set_option linter.unusedVariables false
set_option linter.unusedSimpArgs false

def renI : Ren := ⟨fun | 17 => 74 | 22 => 50 | 24 => 53 | 29 => 67 | 30 => 68 | 36 => 73 | n => n, fun | 9 => 9 | 24 => 23 | n => n, fun n => n⟩
theorem laysI : Lays2.n22 Try.prog renI :=
  { mixed := by kernel_rfl
    f17 := by kernel_rfl
    f22 := by kernel_rfl
    f29 := by kernel_rfl
    f30 := by kernel_rfl
    f36 := by kernel_rfl
    t0 := by kernel_rfl
    a0 := fun _ => by kernel_rfl
    z0 := fun _ => by kernel_rfl
    v0 := fun _ => by kernel_rfl
    t3 := by kernel_rfl
    a3 := fun _ => by kernel_rfl
    z3 := fun _ => by kernel_rfl
    v3 := fun _ => by kernel_rfl
    t4 := by kernel_rfl
    a4 := fun _ => by kernel_rfl
    z4 := fun _ => by kernel_rfl
    v4 := fun _ => by kernel_rfl
    t9 := by kernel_rfl
    a9 := fun _ => by kernel_rfl
    z9 := fun _ => by kernel_rfl
    v9 := fun _ => by kernel_rfl
    t24 := by kernel_rfl
    a24 := fun _ => by kernel_rfl
    z24 := fun _ => by kernel_rfl
    v24 := fun _ => by kernel_rfl
    i9 := by kernel_rfl }
theorem laysD : Lays2.n24 Try.prog renI :=
  { mixed := by kernel_rfl
    f24 := by kernel_rfl
    t0 := by kernel_rfl
    a0 := fun _ => by kernel_rfl
    z0 := fun _ => by kernel_rfl
    v0 := fun _ => by kernel_rfl
    t3 := by kernel_rfl
    a3 := fun _ => by kernel_rfl
    z3 := fun _ => by kernel_rfl
    v3 := fun _ => by kernel_rfl
    t4 := by kernel_rfl
    a4 := fun _ => by kernel_rfl
    z4 := fun _ => by kernel_rfl
    v4 := fun _ => by kernel_rfl
    t9 := by kernel_rfl
    a9 := fun _ => by kernel_rfl
    z9 := fun _ => by kernel_rfl
    v9 := fun _ => by kernel_rfl
    t24 := by kernel_rfl
    a24 := fun _ => by kernel_rfl
    z24 := fun _ => by kernel_rfl
    v24 := fun _ => by kernel_rfl
    i9 := by kernel_rfl }

end Go.Proofs.Ytfedcghkohfhlaa
