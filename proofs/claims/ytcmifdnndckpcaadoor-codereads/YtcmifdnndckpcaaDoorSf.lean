/- Slices of structs whose fields take one cell each, as they came in. -/
import Derived.WalkKit
import Derived.ProofKit
import Derived.OpenShut
import Derived.Deep.Slices
import Derived.Deep.Fields
namespace Go.Proofs.YtcmifdnndckpcaaDoor
open Go.ChangeShapes Go.WideShapes Go.ChangeAt Go.RowKit Go.Deep
set_option linter.unusedVariables false
set_option linter.unusedSimpArgs false

/-- Element i's field j lies in the cell o + i * k + j, k the fields' number, and reads as its type says. -/
theorem open_slice_fields {P : Program} {H : Type} {enc : TypeId × Value → H} {W : World} {base fuel : Nat} {sp : Nat → Bool} {held : Bool} {t e : TypeId} {fs : Array Field} {a : Option Addr} {len cap : Nat} {x : DataW H × List MemPlace}
    (ht : P.underlying t = some (.slice e)) (hs : P.underlying e = some (.struct fs)) (hone : ∀ (i : Nat) (f : Field), fs[i]? = some f → f.offset = i ∧ P.cellsOf f.type = 1) (hC : P.cellsOf e = fs.size) (hpos : 0 < fs.size)
    (h : DataW.trod enc P W base sp held fuel t (Value.slice a len cap).cells.toList = some x) :
    len ≤ cap ∧ cap ≤ maxLen ∧ (a = none → cap = 0) ∧ ∃ b o, (0 < len → a = some ⟨b, o, none⟩) ∧ ∀ i, i < len → ∀ (j : Nat) (f : Field), fs[j]? = some f → ∃ V n y, W.cell? ⟨b, o + i * fs.size + j, none⟩ = some V ∧ DataW.trod enc P W base sp held n f.type [V] = some y := by
  rcases open_slice ht h with ⟨hcs, _⟩ | ⟨x, l, c, m, n, D, Pl, hcs, _, hl, hm, hmm, _, hx⟩
  · simp [Value.cells] at hcs
    obtain ⟨rfl, rfl, rfl⟩ := hcs
    exact ⟨Nat.le_refl _, Nat.zero_le _, fun _ => rfl, 0, 0, fun p => absurd p (Nat.lt_irrefl 0), fun i hi => absurd hi (Nat.not_lt_zero i)⟩
  · simp [Value.cells] at hcs
    obtain ⟨rfl, rfl, rfl⟩ := hcs
    have hlm : len ≤ m := by rw [hmm]; split <;> omega
    obtain ⟨b, o, spot⟩ := x
    have spotless : 0 < len → spot = none := fun p => by
      obtain ⟨cs', h1, _⟩ := hx 0 (by omega)
      obtain ⟨_, hlen, hcell⟩ := World.cells?_some h1
      rw [hC] at hlen hcell
      have h0 := hcell 0 hpos
      rw [List.getElem?_eq_getElem (by omega)] at h0
      simpa [Addr.add] using World.cell?_spot h0
    refine ⟨hl, hm, fun e => by simp at e, b, o, fun p => by rw [spotless p], fun i hi j f hj => ?_⟩
    obtain rfl := spotless (by omega)
    obtain ⟨cs', h1, h2⟩ := hx i (by omega)
    obtain ⟨_, hlen, hcell⟩ := World.cells?_some h1
    rw [hC] at hlen hcell
    obtain ⟨xs, n', _, _, _, hxl, hf⟩ := DataW.trod_struct hs h2
    have hlt : j < fs.size := (Array.getElem?_eq_some_iff.1 hj).1
    obtain ⟨ho, hc1⟩ := hone j f hj
    have g := hf j f hj
    rw [ho, hc1] at g
    rw [take1_drop cs' j undef (by omega)] at g
    refine ⟨cs'.getD j undef, n', xs.getD j (.nil, []), ?_, ?_⟩
    · have := hcell j hlt
      rw [add_add] at this
      rw [add_plain, List.getElem?_eq_getElem (by omega)] at this
      rw [Nat.add_assoc, this]
      simp [List.getD, List.getElem?_eq_getElem (show j < cs'.length by omega)]
    · rw [g]
      simp [List.getD, List.getElem?_eq_getElem (show j < xs.length by omega)]

end Go.Proofs.YtcmifdnndckpcaaDoor
