/- What the rows give the walks: bytes that came in. -/
import Derived.Test.YtblmfkdcahhhbaaDoorDw
import Derived.Test.YtblmfkdcahhhbaaDoorSf
import Derived.ProofKit
import Derived.OpenShut
import Derived.ShutString
import Derived.ChangeOld
import Derived.Below
namespace Go.Proofs.YtblmfkdcahhhbaaDoor
open Go.ChangeShapes Go.WideShapes Go.ChangeAt Go.RowKit Go.Deep
set_option linter.unusedVariables false
set_option linter.unusedSimpArgs false

theorem own : ownKnob Tryd.prog.godebug = none := by kernel_rfl
theorem laidOut : laidOutB Tryd.prog = true := by kernel_rfl
/-- Bytes that came in. -/
theorem by_of {H : Type} {enc : TypeId × Value → H} {W : World} {base fuel : Nat} {sp : Nat → Bool} {held : Bool} {a : Option Addr} {len cap : Nat} {x : DataW H × List MemPlace}
    (h : DataW.trod enc Tryd.prog W base sp held fuel 32 (Value.slice a len cap).cells.toList = some x) : ∃ zs, By W a len cap zs := by
  rcases open_ints Tryd.underlying32 Tryd.underlying5 (by kernel_rfl) h with ⟨hcs, _⟩ | ⟨x, l, c, zs, hcs, _, hl, hm, hz, _, hcell, hwz⟩
  · simp [Value.cells] at hcs
    obtain ⟨rfl, rfl, rfl⟩ := hcs
    exact ⟨[], By.empty W⟩
  · simp [Value.cells] at hcs
    obtain ⟨rfl, rfl, rfl⟩ := hcs
    have hlz : len ≤ zs.length := by rw [hz]; split <;> omega
    obtain ⟨b, off, spot⟩ := x
    have hspot : 0 < len → spot = none := fun p => by
      have hc := hcell 0 (by omega)
      simpa [Addr.add] using World.cell?_spot hc
    refine ⟨zs.take len, by simp; omega, hl, hm, fun e => by simp at e, ⟨b, off, fun p => by rw [hspot p], fun i hi => ?_⟩, fun z hz => ?_⟩
    · obtain rfl := hspot (by omega)
      have := hcell i (by omega)
      rw [Addr.add_mid] at this
      rw [this]
      have e : (zs.take len).getD i 0 = zs.getD i 0 := by simp [List.getD, hi]
      rw [e]
    · have := hwz z (List.mem_of_mem_take hz)
      simp [Lit.wf, IntKind.min, IntKind.max, IntKind.signed, IntKind.bits] at this
      omega

theorem i64_of {H : Type} {enc : TypeId × Value → H} {W : World} {base fuel : Nat} {sp : Nat → Bool} {held : Bool} {V : Value} {y : DataW H × List MemPlace} (h : DataW.trod enc Tryd.prog W base sp held fuel 3 [V] = some y) : ∃ z, V = .int .i64 z ∧ z ≤ 9223372036854775807 := by
  obtain ⟨z, hc, _, hw⟩ := DataW.trod_int Tryd.underlying3 h
  simp at hc
  have := bounds_i64 hw
  exact ⟨z, hc, by omega⟩
theorem slice_of {H : Type} {enc : TypeId × Value → H} {W : World} {base fuel : Nat} {sp : Nat → Bool} {held : Bool} {V : Value} {y : DataW H × List MemPlace} (h : DataW.trod enc Tryd.prog W base sp held fuel 32 [V] = some y) : ∃ a m c b, V = .slice a m c ∧ By W a m c b := by
  have : ∃ a m c, V = .slice a m c := by
    rcases open_slice Tryd.underlying32 h with ⟨hcs, _⟩ | ⟨x, l, c, m, n, D, Pl, hcs, _⟩
    · simp at hcs; exact ⟨_, _, _, hcs⟩
    · simp at hcs; exact ⟨_, _, _, hcs⟩
  obtain ⟨a, m, c, rfl⟩ := this
  obtain ⟨b, hb⟩ := by_of (a := a) (len := m) (cap := c) h
  exact ⟨a, m, c, b, rfl, hb⟩

end Go.Proofs.YtblmfkdcahhhbaaDoor
