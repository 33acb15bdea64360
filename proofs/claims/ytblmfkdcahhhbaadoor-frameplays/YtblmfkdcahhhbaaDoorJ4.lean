/- What the rows give the walks: the table in its place, and slices that came in. -/
import Derived.Test.YtblmfkdcahhhbaaDoorCards
import Derived.Test.YtblmfkdcahhhbaaDoorTie
import Derived.Test.YtblmfkdcahhhbaaDoorJ3
import Derived.Test.YtblmfkdcahhhbaaDoorEa
import Derived.ChangeMaps5
import Derived.Deep.DeepHandedRow
import Derived.Lib.LaidTab
namespace Go.Proofs.YtblmfkdcahhhbaaDoor
open Go.ChangeShapes Go.WideShapes Go.ChangeAt Go.RowKit Go.Deep
set_option linter.unusedVariables false
set_option linter.unusedSimpArgs false

theorem gTab : Tryd.prog.globalNamed "publican/pack.halves" = some 0 := by kernel_rfl
theorem gTabType : (Tryd.prog.globals[0]?).map (·.type) = some 115 := by kernel_rfl
theorem cellsTab : Tryd.prog.cellsOf 115 = 16 := by kernel_rfl
theorem cellsU32 : Tryd.prog.cellsOf 73 = 1 := by kernel_rfl
theorem tab_of {W : World} (h : laidMetH Tryd.prog [("publican/pack.halves", Rows.laid_publican_pack_halves)] W) : Tab W := by
  have t : Lib.TabIs Tryd.prog W "publican/pack.halves" .u32 tabL := Lib.tabIs_of_head (rest := []) gTab gTabType Tryd.underlying115 Tryd.underlying73 cellsU32 cellsTab h
  have c : ∀ i, i < 16 → W.cell? ⟨0, i, none⟩ = some (.int .u32 (tab i : Nat)) := fun i hi => by
    have := t.cell gTab i (by simpa [tabL] using hi)
    rw [this]
    have key : ∀ i : Fin 16, tabL.getD i.val 0 = ((tab i.val : Nat) : Int) := by decide
    rw [key ⟨i, hi⟩]
  exact ⟨World.block_lt_of_cell? _ _ (c 0 (by decide)), c⟩

/-- A slice of integers that came in. -/
structure Nm (k : IntKind) (w : World) (a : Option Addr) (n cap : Nat) (zs : List Int) : Prop where
  len : zs.length = n
  fits : n ≤ cap
  max : cap ≤ maxLen
  nil : a = none → cap = 0
  cell : ∃ b o : Nat, (0 < n → a = some ⟨b, o, none⟩) ∧ ∀ i, i < n → w.cell? ⟨b, o + i, none⟩ = some (.int k (zs.getD i 0))
  ok : ∀ z ∈ zs, (Lit.int k z).wf = true
theorem nm_of {H : Type} {enc : TypeId × Value → H} {W : World} {base fuel : Nat} {sp : Nat → Bool} {held : Bool} {t e : TypeId} {k : IntKind} {a : Option Addr} {len cap : Nat} {x : DataW H × List MemPlace}
    (ht : Tryd.prog.underlying t = some (.slice e)) (he : Tryd.prog.underlying e = some (.int k)) (hc : Tryd.prog.cellsOf e = 1) (h : DataW.trod enc Tryd.prog W base sp held fuel t (Value.slice a len cap).cells.toList = some x) : ∃ zs, Nm k W a len cap zs := by
  rcases open_ints ht he hc h with ⟨hcs, _⟩ | ⟨x, l, c, zs, hcs, _, hl, hm, hz, _, hcell, hwz⟩
  · simp [Value.cells] at hcs
    obtain ⟨rfl, rfl, rfl⟩ := hcs
    exact ⟨[], rfl, Nat.le_refl _, Nat.zero_le _, fun _ => rfl, ⟨0, 0, fun p => absurd p (Nat.lt_irrefl 0), fun i hi => absurd hi (Nat.not_lt_zero i)⟩, fun z hz => by simp at hz⟩
  · simp [Value.cells] at hcs
    obtain ⟨rfl, rfl, rfl⟩ := hcs
    have hlz : len ≤ zs.length := by rw [hz]; split <;> omega
    refine ⟨zs.take len, by simp; omega, hl, hm, fun e => by simp at e, ⟨x.block, x.off, fun p => ?_, fun i hi => ?_⟩, fun z hz => hwz z (List.mem_of_mem_take hz)⟩
    · obtain ⟨b, off, spot⟩ := x
      have hc := hcell 0 (by omega)
      have hspot : spot = none := by simpa [Addr.add] using World.cell?_spot hc
      subst hspot
      rfl
    · obtain ⟨b, off, spot⟩ := x
      have hc := hcell 0 (by omega)
      have hspot : spot = none := by simpa [Addr.add] using World.cell?_spot hc
      subst hspot
      have := hcell i (by omega)
      have hplain : (⟨b, off, none⟩ : Addr).add i = ⟨b, off + i, none⟩ := by unfold Addr.add; split <;> simp_all
      rw [hplain] at this
      rw [this]
      have e : (zs.take len).getD i 0 = zs.getD i 0 := by simp [List.getD, hi]
      rw [e]
theorem Nm.by {w : World} {a : Option Addr} {n cap : Nat} {zs : List Int} (h : Nm .u8 w a n cap zs) : By w a n cap zs :=
  ⟨h.len, h.fits, h.max, h.nil, h.cell, fun z hz => by
    have := h.ok z hz
    simp [Lit.wf, IntKind.min, IntKind.max, IntKind.signed, IntKind.bits] at this
    omega⟩

/-- Elements of one cell. -/
theorem open_slice_one {P : Program} {H : Type} {enc : TypeId × Value → H} {W : World} {base fuel : Nat} {sp : Nat → Bool} {held : Bool} {t e : TypeId} {a : Option Addr} {len cap : Nat} {x : DataW H × List MemPlace}
    (ht : P.underlying t = some (.slice e)) (hC : P.cellsOf e = 1) (h : DataW.trod enc P W base sp held fuel t (Value.slice a len cap).cells.toList = some x) :
    len ≤ cap ∧ cap ≤ maxLen ∧ (a = none → cap = 0) ∧ ∃ b o, (0 < len → a = some ⟨b, o, none⟩) ∧ ∀ i, i < len → ∃ V n y, W.cell? ⟨b, o + i, none⟩ = some V ∧ DataW.trod enc P W base sp held n e [V] = some y := by
  rcases open_slice ht h with ⟨hcs, _⟩ | ⟨x, l, c, m, n, D, Pl, hcs, _, hl, hm, hmm, _, hx⟩
  · simp [Value.cells] at hcs
    obtain ⟨rfl, rfl, rfl⟩ := hcs
    exact ⟨Nat.le_refl _, Nat.zero_le _, fun _ => rfl, 0, 0, fun p => absurd p (Nat.lt_irrefl 0), fun i hi => absurd hi (Nat.not_lt_zero i)⟩
  · simp [Value.cells] at hcs
    obtain ⟨rfl, rfl, rfl⟩ := hcs
    have hlm : len ≤ m := by rw [hmm]; split <;> omega
    obtain ⟨b, o, spot⟩ := x
    have spotless : 0 < len → spot = none := fun p => by
      obtain ⟨cs', h1, _⟩ := hx 0 (by omega)
      obtain ⟨_, hlen, hcell⟩ := World.cells?_some h1
      rw [hC] at hlen hcell
      have h0 := hcell 0 (Nat.zero_lt_one)
      rw [List.getElem?_eq_getElem (by omega)] at h0
      simpa [Addr.add] using World.cell?_spot h0
    refine ⟨hl, hm, fun e => by simp at e, b, o, fun p => by rw [spotless p], fun i hi => ?_⟩
    obtain rfl := spotless (by omega)
    obtain ⟨cs', h1, h2⟩ := hx i (by omega)
    obtain ⟨_, hlen, hcell⟩ := World.cells?_some h1
    rw [hC] at hlen hcell
    obtain ⟨V, rfl⟩ := List.length_eq_one_iff.1 hlen
    have hc0 := hcell 0 (Nat.zero_lt_one)
    rw [add_add, add_plain, Nat.mul_one, Nat.add_zero] at hc0
    exact ⟨V, _, _, hc0, h2⟩
/-- Rows of bytes that came in. -/
structure Bss (w : World) (a : Option Addr) (n cap : Nat) (L : List (List Int)) : Prop where
  len : L.length = n
  fits : n ≤ cap
  max : cap ≤ maxLen
  nil : a = none → cap = 0
  cell : ∃ b o : Nat, (0 < n → a = some ⟨b, o, none⟩) ∧ ∀ i, i < n → ∃ x m c, w.cell? ⟨b, o + i, none⟩ = some (.slice x m c) ∧ By w x m c (L.getD i [])
theorem bss_of {H : Type} {enc : TypeId × Value → H} {W : World} {base fuel : Nat} {sp : Nat → Bool} {held : Bool} {a : Option Addr} {len cap : Nat} {x : DataW H × List MemPlace}
    (h : DataW.trod enc Tryd.prog W base sp held fuel 57 (Value.slice a len cap).cells.toList = some x) : ∃ L, Bss W a len cap L := by
  obtain ⟨hl, hm, hnl, b, o, hb, hx⟩ := open_slice_one Tryd.underlying57 (by kernel_rfl) h
  have key : ∀ i, ∃ l : List Int, i < len → ∃ x m c, W.cell? ⟨b, o + i, none⟩ = some (.slice x m c) ∧ By W x m c l := fun i => by
    by_cases hi : i < len
    · obtain ⟨V, n, y, hc, ht⟩ := hx i hi
      obtain ⟨x, m, c, l, rfl, yy⟩ := slice_of ht
      exact ⟨l, fun _ => ⟨x, m, c, hc, yy⟩⟩
    · exact ⟨[], fun h => absurd h hi⟩
  refine ⟨(List.range len).map (fun i => Classical.choose (key i)), by simp, hl, hm, hnl, b, o, hb, fun i hi => ?_⟩
  have e : ((List.range len).map (fun i => Classical.choose (key i))).getD i [] = Classical.choose (key i) := by
    rw [List.getD_eq_getElem?_getD, List.getElem?_map, List.getElem?_range hi]; rfl
  rw [e]
  exact Classical.choose_spec (key i) hi

end Go.Proofs.YtblmfkdcahhhbaaDoor
