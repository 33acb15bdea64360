/- Bytes that came in. -/
import Derived.Test.YtfedcghkohfhlaaSh
import Derived.Test.YtfedcghkohfhlaaV8
import Derived.OpenShut
import Derived.ShutString
import Derived.ChangeOld
import Derived.Below
namespace Go.Proofs.Ytfedcghkohfhlaa
open Go.ChangeShapes Go.WideShapes Go.ChangeAt Go.RowKit Go.Deep
set_option linter.unusedVariables false
set_option linter.unusedSimpArgs false

/-- Bytes that came in. -/
theorem by_of {H : Type} {enc : TypeId × Value → H} {W : World} {base fuel : Nat} {sp : Nat → Bool} {held : Bool} {a : Option Addr} {len cap : Nat} {x : DataW H × List MemPlace}
    (h : DataW.trod enc Try.prog W base sp held fuel 30 (Value.slice a len cap).cells.toList = some x) : ∃ zs, By W a len cap zs := by
  rcases open_ints Try.underlying30 Try.underlying5 (by kernel_rfl) h with ⟨hcs, _⟩ | ⟨x, l, c, zs, hcs, _, hl, hm, hz, _, hcell, hwz⟩
  · simp [Value.cells] at hcs
    obtain ⟨rfl, rfl, rfl⟩ := hcs
    exact ⟨[], By.empty W⟩
  · simp [Value.cells] at hcs
    obtain ⟨rfl, rfl, rfl⟩ := hcs
    have hlz : len ≤ zs.length := by rw [hz]; split <;> omega
    obtain ⟨b, off, spot⟩ := x
    have hspot : 0 < len → spot = none := fun p => by
      have hc := hcell 0 (by omega)
      simpa [Addr.add] using World.cell?_spot hc
    refine ⟨zs.take len, by simp; omega, hl, hm, fun e => by simp at e, ⟨b, off, fun p => by rw [hspot p], fun i hi => ?_⟩, fun z hz => ?_⟩
    · obtain rfl := hspot (by omega)
      have := hcell i (by omega)
      rw [Addr.add_mid] at this
      rw [this]
      have e : (zs.take len).getD i 0 = zs.getD i 0 := by simp [List.getD, hi]
      rw [e]
    · have := hwz z (List.mem_of_mem_take hz)
      simp [Lit.wf, IntKind.min, IntKind.max, IntKind.signed, IntKind.bits] at this
      omega


end Go.Proofs.Ytfedcghkohfhlaa
