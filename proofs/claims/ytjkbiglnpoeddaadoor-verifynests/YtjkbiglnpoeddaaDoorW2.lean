/- The walks over package pack's writers. -/
import Derived.Test.YtjkbiglnpoeddaaDoorW1
namespace Go.Proofs.YtjkbiglnpoeddaaDoor
open Go.RowKit
set_option linter.unusedVariables false
set_option linter.unusedSimpArgs false

/-- One byte in a block of its own. -/
theorem by_new (w : World) (x : Int) (t : TypeId) (h0 : 0 ≤ x) (h1 : x < 256) : By (w.alloc (.cells #[.int .u8 x] t)) (some ⟨w.heap.size, 0, none⟩) 1 1 [x] :=
  ⟨rfl, Nat.le_refl _, by decide, fun e => by simp at e, ⟨w.heap.size, 0, fun _ => rfl, fun i hi => by
    obtain rfl : i = 0 := by omega
    simp⟩, Bys.mk h0 h1 Bys.nil⟩

theorem or128 (x : Nat) : bits .or .u8 ((x : Int) % 256) 128 = ((x % 128 + 128 : Nat) : Int) := by
  have e : (x : Int) % 256 = ((x % 256 : Nat) : Int) := by omega
  have h := u8_or_nat (x % 256) 128 (by omega) (by omega)
  rw [e]
  rw [show ((128 : Nat) : Int) = 128 from rfl] at h
  rw [h]
  have key : ∀ y : Fin 256, y.val ||| 128 = y.val % 128 + 128 := by decide +kernel
  have := key ⟨x % 256, by omega⟩
  simp only at this
  rw [this]
  omega

end Go.Proofs.YtjkbiglnpoeddaaDoor
