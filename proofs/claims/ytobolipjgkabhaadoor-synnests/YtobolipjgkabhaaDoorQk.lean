/- What the rows give the walks: the tables in their places. -/
import Derived.Test.YtobolipjgkabhaaDoorGd
import Derived.ProofKit
import Derived.OpenShut
import Derived.ShutString
import Derived.ChangeOld
import Derived.Below
import Derived.ChangeMaps5
import Derived.Deep.DeepHandedRow
import Derived.Lib.LaidTab
namespace Go.Proofs.YtobolipjgkabhaaDoor
open Go.ChangeShapes Go.WideShapes Go.ChangeAt Go.RowKit
set_option linter.unusedVariables false
set_option linter.unusedSimpArgs false

theorem own : ownKnob Tryd.prog.godebug = none := by kernel_rfl
theorem gTab : Tryd.prog.globalNamed "publican/lex.signs" = some 0 := by kernel_rfl
theorem gTabType : (Tryd.prog.globals[0]?).map (·.type) = some 48 := by kernel_rfl
theorem cellsTab : Tryd.prog.cellsOf 48 = 20 := by kernel_rfl
theorem cellsStr : Tryd.prog.cellsOf 9 = 1 := by kernel_rfl
theorem gKin : Tryd.prog.globalNamed "publican/syn.kindNames" = some 1 := by kernel_rfl
theorem gKinType : (Tryd.prog.globals[1]?).map (·.type) = some 75 := by kernel_rfl
theorem cellsKin : Tryd.prog.cellsOf 75 = 7 := by kernel_rfl
theorem gPow : Tryd.prog.globalNamed "internal/strconv.uint64pow10" = some 3 := by kernel_rfl
theorem gPowType : (Tryd.prog.globals[3]?).map (·.type) = some 95 := by kernel_rfl
theorem cellsPow : Tryd.prog.cellsOf 95 = 20 := by kernel_rfl
theorem cellsU64 : Tryd.prog.cellsOf 63 = 1 := by kernel_rfl
def strData {H : Type} (ss : List (List UInt8)) : DataW H := .agg (ss.map fun z => .lit (.string z))
/-- An array of texts that reads as a table holds the table's texts, cell for cell. -/
theorem cells_of_strs {H : Type} {enc : TypeId × Value → H} {P : Program} {w : World} {base : Nat} {sp : Nat → Bool} {held : Bool} {fuel : Nat} {t e : TypeId} {n : Nat} {cs : List Value} {zs : List (List UInt8)} {p : List MemPlace}
    (ht : P.underlying t = some (.array n e)) (he : P.underlying e = some .string) (hce : P.cellsOf e = 1) (hct : P.cellsOf t = n)
    (h : DataW.trod enc P w base sp held fuel t cs = some (strData zs, p)) : cs = zs.map fun z => Value.string (tx z) := by
  cases fuel with
  | zero => simp [DataW.trod] at h
  | succ fuel =>
    simp only [DataW.trod, ht, hce, hct, Nat.mul_one] at h
    split at h
    · rename_i hl
      obtain ⟨xs, hm, hx⟩ := Option.map_eq_some_iff.1 h
      have hxs : xs.map (·.1) = zs.map fun z => (DataW.lit (.string z) : DataW H) := by
        have := congrArg Prod.fst hx
        simpa [strData] using this
      have hxl : xs.length = n := by simpa using Lib.mapM_length hm
      have hzl : zs.length = n := by
        have := congrArg List.length hxs
        simp at this
        omega
      apply List.ext_getElem?
      intro i
      by_cases hi : i < n
      · obtain ⟨b, hb, hf⟩ := Lib.mapM_at hm i i (by simp [hi])
        obtain ⟨z, hc, rfl, _⟩ := DataW.trod_string he hf
        have h1 : cs[i]? = some (.string z) := by
          have := congrArg (·[0]?) hc
          simpa [List.getElem?_take, List.getElem?_drop] using this
        have h2 : (xs.map (·.1))[i]? = some (DataW.lit (.string z.data.toList) : DataW H) := by simp [hb]
        rw [hxs] at h2
        simp only [List.getElem?_map, Option.map_eq_some_iff, DataW.lit.injEq, Lit.string.injEq] at h2
        obtain ⟨z', hz', e⟩ := h2
        rw [h1, List.getElem?_map, hz']
        show some (Value.string z) = some (Value.string (tx z'))
        rw [e, tx_data]
      · rw [List.getElem?_eq_none (by omega), List.getElem?_eq_none (by simp; omega)]
    · cases h
theorem lv_next {P : Program} {w : World} {x : String × DataW Unit} {rest : List (String × DataW Unit)} {ps : List MemPlace} (h : DataW.LaidVars P w (x :: rest) ps) : ∃ q, DataW.LaidVars P w rest q := by
  obtain ⟨g', t', cs, fuel, p, q, hg', ht', hvar, hd, h1, h2⟩ := h
  exact ⟨q, by assumption⟩
def kNb : List (List UInt8) := kNl.map fun x => x.data.toList
theorem tbs_of {W : World} (h : laidMetH Tryd.prog Rows.synNestsRow.laid W) : Tbs W := by
  obtain ⟨ps, h0, _⟩ := (h : laidMet Tryd.prog Rows.synNestsRow.laid W)
  obtain ⟨p1, h1⟩ := lv_next h0
  obtain ⟨p2, h2⟩ := lv_next h1
  obtain ⟨p3, h3⟩ := lv_next h2
  obtain ⟨p4, h4⟩ := lv_next h3
  have A2 : DataW.LaidVars Tryd.prog W (("internal/strconv.uint64pow10", Lib.tabData .u64 Lib.pow10Tab) :: _) p2 := h2
  have A3 : DataW.LaidVars Tryd.prog W (("publican/lex.signs", strData sgl) :: _) p3 := h3
  have A4 : DataW.LaidVars Tryd.prog W (("publican/syn.kindNames", strData kNb) :: _) p4 := h4
  refine ⟨?_, ?_, ?_⟩
  · have hv : W.var? Tryd.prog "publican/lex.signs" = some (sgl.map fun z => Value.string (tx z)).toArray := by
      obtain ⟨g', t', cs, fuel, p, q, hg', ht', hvar, hd, _, _⟩ := A3
      obtain rfl := Option.some.inj (gTab.symm.trans hg')
      obtain rfl := Option.some.inj (gTabType.symm.trans ht')
      rw [hvar, ← cells_of_strs Tryd.underlying48 Tryd.underlying9 cellsStr cellsTab hd]
    have c : ∀ i, i < 20 → W.cell? ⟨0, i, none⟩ = some (.string (tx (sg i))) := fun i hi => by
      have := World.var?_cell gTab hv i
      rw [this]
      have hi' : i < sgl.length := hi
      unfold sg
      simp [List.getD, hi']
    exact ⟨World.block_lt_of_cell? _ _ (c 0 (by decide)), c⟩
  · have hv : W.var? Tryd.prog "publican/syn.kindNames" = some (kNb.map fun z => Value.string (tx z)).toArray := by
      obtain ⟨g', t', cs, fuel, p, q, hg', ht', hvar, hd, _, _⟩ := A4
      obtain rfl := Option.some.inj (gKin.symm.trans hg')
      obtain rfl := Option.some.inj (gKinType.symm.trans ht')
      rw [hvar, ← cells_of_strs Tryd.underlying75 Tryd.underlying9 cellsStr cellsKin hd]
    have c : ∀ i, i < 7 → W.cell? ⟨1, i, none⟩ = some (.string (kNm i)) := fun i hi => by
      have := World.var?_cell gKin hv i
      rw [this]
      match i, hi with
      | 0, _ => rfl
      | 1, _ => rfl
      | 2, _ => rfl
      | 3, _ => rfl
      | 4, _ => rfl
      | 5, _ => rfl
      | 6, _ => rfl
    exact ⟨World.block_lt_of_cell? _ _ (c 0 (by decide)), c⟩
  · obtain ⟨g', t', cs, fuel, p, q, hg', ht', hvar, hd, _, _⟩ := A2
    obtain rfl := Option.some.inj (gPow.symm.trans hg')
    obtain rfl := Option.some.inj (gPowType.symm.trans ht')
    unfold Lib.TabIs
    rw [hvar, ← Lib.cells_of_tab Tryd.underlying95 Tryd.underlying63 cellsU64 cellsPow hd]
/-- A world for the witness: the tables laid. -/
noncomputable def laidWorld (os : Os) : World :=
  { World.holding Tryd.prog os ⟨#[], #[], []⟩ with heap := ((((((World.holding Tryd.prog os ⟨#[], #[], []⟩).heap.modify 0 fun
      | .cells _ t frozen => .cells (sgl.map fun z => Value.string (tx z)).toArray t frozen
      | o => o).modify 1 fun
      | .cells _ t frozen => .cells (kNl.map fun z => Value.string z).toArray t frozen
      | o => o).modify 3 fun
      | .cells _ t frozen => .cells (Lib.pow10Tab.map fun z => Value.int .u64 z).toArray t frozen
      | o => o).modify 4 fun
      | .cells _ t frozen => .cells (([0, 1, 28, 2, 29, 14, 24, 3, 30, 22, 20, 15, 25, 17, 4, 8, 31, 27, 13, 23, 21, 19, 16, 7, 26, 12, 18, 6, 11, 5, 10, 9] : List Int).map fun z => Value.int .u8 z).toArray t frozen
      | o => o).modify 5 fun
      | .cells _ t frozen => .cells (([0, 1, 56, 2, 57, 49, 28, 3, 61, 58, 42, 50, 38, 29, 17, 4, 62, 47, 59, 36, 45, 43, 51, 22, 53, 39, 33, 30, 24, 18, 12, 5, 63, 55, 48, 27, 60, 41, 37, 16, 46, 35, 44, 21, 52, 32, 23, 11, 54, 26, 40, 15, 34, 20, 31, 10, 25, 14, 19, 9, 13, 8, 7, 6] : List Int).map fun z => Value.int .u8 z).toArray t frozen
      | o => o) }
end Go.Proofs.YtobolipjgkabhaaDoor
