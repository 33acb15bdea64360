/- What the rows give the walks: the table in its place, and slices and texts that came in. -/
import Derived.Test.YtgjimoihbbogdaaDoorW8
import Derived.ProofKit
import Derived.OpenShut
import Derived.ShutString
import Derived.ChangeOld
import Derived.Below
import Derived.ChangeMaps5
import Derived.Deep.DeepHandedRow
import Derived.Lib.LaidTab
import Derived.SliceStrings
namespace Go.Proofs.YtgjimoihbbogdaaDoor
open Go.ChangeShapes Go.WideShapes Go.ChangeAt Go.RowKit
set_option linter.unusedVariables false

theorem own : ownKnob Tryd.prog.godebug = none := by kernel_rfl
theorem laidOut : laidOutB Tryd.prog = true := by kernel_rfl
theorem gTab : Tryd.prog.globalNamed "publican/pack.halves" = some 0 := by kernel_rfl
theorem gTabType : (Tryd.prog.globals[0]?).map (·.type) = some 54 := by kernel_rfl
theorem cellsTab : Tryd.prog.cellsOf 54 = 16 := by kernel_rfl
theorem cellsU32 : Tryd.prog.cellsOf 31 = 1 := by kernel_rfl
theorem tab_of {W : World} (h : laidMetH Tryd.prog [("publican/pack.halves", Rows.laid_publican_pack_halves)] W) : Tab W := by
  have t : Lib.TabIs Tryd.prog W "publican/pack.halves" .u32 tabL := Lib.tabIs_of_head (rest := []) gTab gTabType Tryd.underlying54 Tryd.underlying31 cellsU32 cellsTab h
  have c : ∀ i, i < 16 → W.cell? ⟨0, i, none⟩ = some (.int .u32 (tab i : Nat)) := fun i hi => by
    have := t.cell gTab i (by simpa [tabL] using hi)
    rw [this]
    have key : ∀ i : Fin 16, tabL.getD i.val 0 = ((tab i.val : Nat) : Int) := by decide
    rw [key ⟨i, hi⟩]
  exact ⟨World.block_lt_of_cell? _ _ (c 0 (by decide)), c⟩

/-- A slice of integers that came in. -/
structure Nm (k : IntKind) (w : World) (a : Option Addr) (n cap : Nat) (zs : List Int) : Prop where
  len : zs.length = n
  fits : n ≤ cap
  max : cap ≤ maxLen
  nil : a = none → cap = 0
  cell : ∃ b o : Nat, (0 < n → a = some ⟨b, o, none⟩) ∧ ∀ i, i < n → w.cell? ⟨b, o + i, none⟩ = some (.int k (zs.getD i 0))
  ok : ∀ z ∈ zs, (Lit.int k z).wf = true
theorem nm_of {H : Type} {enc : TypeId × Value → H} {W : World} {base fuel : Nat} {sp : Nat → Bool} {held : Bool} {t e : TypeId} {k : IntKind} {a : Option Addr} {len cap : Nat} {x : DataW H × List MemPlace}
    (ht : Tryd.prog.underlying t = some (.slice e)) (he : Tryd.prog.underlying e = some (.int k)) (hc : Tryd.prog.cellsOf e = 1) (h : DataW.trod enc Tryd.prog W base sp held fuel t (Value.slice a len cap).cells.toList = some x) : ∃ zs, Nm k W a len cap zs := by
  rcases open_ints ht he hc h with ⟨hcs, _⟩ | ⟨x, l, c, zs, hcs, _, hl, hm, hz, _, hcell, hwz⟩
  · simp [Value.cells] at hcs
    obtain ⟨rfl, rfl, rfl⟩ := hcs
    exact ⟨[], rfl, Nat.le_refl _, Nat.zero_le _, fun _ => rfl, ⟨0, 0, fun p => absurd p (Nat.lt_irrefl 0), fun i hi => absurd hi (Nat.not_lt_zero i)⟩, fun z hz => by simp at hz⟩
  · simp [Value.cells] at hcs
    obtain ⟨rfl, rfl, rfl⟩ := hcs
    have hlz : len ≤ zs.length := by rw [hz]; split <;> omega
    refine ⟨zs.take len, by simp; omega, hl, hm, fun e => by simp at e, ⟨x.block, x.off, fun p => ?_, fun i hi => ?_⟩, fun z hz => hwz z (List.mem_of_mem_take hz)⟩
    · obtain ⟨b, off, spot⟩ := x
      have hc := hcell 0 (by omega)
      have hspot : spot = none := by simpa [Addr.add] using World.cell?_spot hc
      subst hspot
      rfl
    · obtain ⟨b, off, spot⟩ := x
      have hc := hcell 0 (by omega)
      have hspot : spot = none := by simpa [Addr.add] using World.cell?_spot hc
      subst hspot
      have := hcell i (by omega)
      have hplain : (⟨b, off, none⟩ : Addr).add i = ⟨b, off + i, none⟩ := by unfold Addr.add; split <;> simp_all
      rw [hplain] at this
      rw [this]
      have e : (zs.take len).getD i 0 = zs.getD i 0 := by simp [List.getD, hi]
      rw [e]
theorem Nm.by {w : World} {a : Option Addr} {n cap : Nat} {zs : List Int} (h : Nm .u8 w a n cap zs) : By w a n cap zs :=
  ⟨h.len, h.fits, h.max, h.nil, h.cell, fun z hz => by
    have := h.ok z hz
    simp [Lit.wf, IntKind.min, IntKind.max, IntKind.signed, IntKind.bits] at this
    omega⟩
/-- A slice of texts that came in. -/
structure Tx (w : World) (a : Option Addr) (n cap : Nat) (ss : List ByteArray) : Prop where
  len : ss.length = n
  fits : n ≤ cap
  max : cap ≤ maxLen
  nil : a = none → cap = 0
  cell : ∃ b o : Nat, (0 < n → a = some ⟨b, o, none⟩) ∧ ∀ i, i < n → w.cell? ⟨b, o + i, none⟩ = some (.string (ss.getD i ByteArray.empty))
  ok : ∀ s ∈ ss, s.size ≤ maxLen
theorem tx_of {H : Type} {enc : TypeId × Value → H} {W : World} {base fuel : Nat} {sp : Nat → Bool} {held : Bool} {t e : TypeId} {a : Option Addr} {len cap : Nat} {x : DataW H × List MemPlace}
    (ht : Tryd.prog.underlying t = some (.slice e)) (he : Tryd.prog.underlying e = some .string) (hc : Tryd.prog.cellsOf e = 1) (h : DataW.trod enc Tryd.prog W base sp held fuel t (Value.slice a len cap).cells.toList = some x) : ∃ ss, Tx W a len cap ss := by
  rcases open_strings ht he hc h with ⟨hcs, _⟩ | ⟨x, l, c, zs, hcs, _, hl, hm, hz, _, hcell, hwz⟩
  · simp [Value.cells] at hcs
    obtain ⟨rfl, rfl, rfl⟩ := hcs
    exact ⟨[], rfl, Nat.le_refl _, Nat.zero_le _, fun _ => rfl, ⟨0, 0, fun p => absurd p (Nat.lt_irrefl 0), fun i hi => absurd hi (Nat.not_lt_zero i)⟩, fun z hz => by simp at hz⟩
  · simp [Value.cells] at hcs
    obtain ⟨rfl, rfl, rfl⟩ := hcs
    have hlz : len ≤ zs.length := by rw [hz]; split <;> omega
    refine ⟨zs.take len, by simp; omega, hl, hm, fun e => by simp at e, ⟨x.block, x.off, fun p => ?_, fun i hi => ?_⟩, fun z hz => hwz z (List.mem_of_mem_take hz)⟩
    · obtain ⟨b, off, spot⟩ := x
      have hc := hcell 0 (by omega)
      have hspot : spot = none := by simpa [Addr.add] using World.cell?_spot hc
      subst hspot
      rfl
    · obtain ⟨b, off, spot⟩ := x
      have hc := hcell 0 (by omega)
      have hspot : spot = none := by simpa [Addr.add] using World.cell?_spot hc
      subst hspot
      have := hcell i (by omega)
      have hplain : (⟨b, off, none⟩ : Addr).add i = ⟨b, off + i, none⟩ := by unfold Addr.add; split <;> simp_all
      rw [hplain] at this
      rw [this]
      have e : (zs.take len).getD i ByteArray.empty = zs.getD i ByteArray.empty := by simp [List.getD, hi]
      rw [e]

end Go.Proofs.YtgjimoihbbogdaaDoor
