/- What the rows give the walks: the tables in their places. -/
import Derived.Test.YtcmifdnndckpcaaDoorDt
import Derived.Test.YtcmifdnndckpcaaDoorRows
import Derived.ProofKit
import Derived.OpenShut
import Derived.ShutString
import Derived.ChangeOld
import Derived.Below
import Derived.ChangeMaps5
import Derived.Deep.DeepHandedRow
import Derived.Lib.LaidTab
namespace Go.Proofs.YtcmifdnndckpcaaDoor
open Go.ChangeShapes Go.WideShapes Go.ChangeAt Go.RowKit
set_option linter.unusedVariables false
set_option linter.unusedSimpArgs false

theorem own : ownKnob Tryd.prog.godebug = none := by kernel_rfl
theorem laidOut : laidOutB Tryd.prog = true := by kernel_rfl
theorem gHal : Tryd.prog.globalNamed "publican/pack.halves" = some 1 := by kernel_rfl
theorem gHalType : (Tryd.prog.globals[1]?).map (·.type) = some 116 := by kernel_rfl
theorem cellsHal : Tryd.prog.cellsOf 116 = 16 := by kernel_rfl
theorem cellsU32 : Tryd.prog.cellsOf 77 = 1 := by kernel_rfl
theorem gRow : Tryd.prog.globalNamed "publican/code.rows" = some 0 := by kernel_rfl
theorem gRowType : (Tryd.prog.globals[0]?).map (·.type) = some 105 := by kernel_rfl
theorem cellsRows : Tryd.prog.cellsOf 105 = 48 := by kernel_rfl
theorem cellsRow : Tryd.prog.cellsOf 52 = 2 := by kernel_rfl
theorem cellsStr : Tryd.prog.cellsOf 9 = 1 := by kernel_rfl
theorem cellsInt : Tryd.prog.cellsOf 3 = 1 := by kernel_rfl
theorem gPow : Tryd.prog.globalNamed "internal/strconv.uint64pow10" = some 2 := by kernel_rfl
theorem gPowType : (Tryd.prog.globals[2]?).map (·.type) = some 126 := by kernel_rfl
theorem cellsPow : Tryd.prog.cellsOf 126 = 20 := by kernel_rfl
theorem cellsU64 : Tryd.prog.cellsOf 107 = 1 := by kernel_rfl
def rwL : List (ByteArray × Int) := (List.range 24).map fun i => (nmL.getD i ⟨#[]⟩, ((noL.getD i 0 : Nat) : Int))
def rowD {H : Type} (x : ByteArray × Int) : DataW H := .agg [.lit (.string x.1.data.toList), .lit (.int .i64 x.2)]
def rowL (x : ByteArray × Int) : List Value := [.string x.1, .int .i64 x.2]
theorem str_data {s t : ByteArray} (h : s.data.toList = t.data.toList) : s = t := by
  obtain ⟨x⟩ := s
  obtain ⟨y⟩ := t
  have : x = y := Array.toList_inj.1 h
  rw [this]
theorem fieldsRow : ∃ f0 f1 : Field, Tryd.prog.underlying 52 = some (.struct #[f0, f1]) ∧ (f0.type = 9 ∧ f0.offset = 0) ∧ (f1.type = 3 ∧ f1.offset = 1) := ⟨_, _, Tryd.underlying52, ⟨rfl, rfl⟩, ⟨rfl, rfl⟩⟩
set_option maxRecDepth 100000 in
theorem row_cells {H : Type} {enc : TypeId × Value → H} {w : World} {base : Nat} {sp : Nat → Bool} {held : Bool} {fuel : Nat} {cs : List Value} {y : DataW H × List MemPlace} {x : ByteArray × Int}
    (h : DataW.trod enc Tryd.prog w base sp held fuel 52 cs = some y) (hy : y.1 = rowD x) : cs = rowL x := by
  obtain ⟨f0, f1, hu, ⟨t0, o0⟩, ⟨t1, o1⟩⟩ := fieldsRow
  obtain ⟨xs, n, _, rfl, hl, hn, hf⟩ := DataW.trod_struct hu h
  rw [cellsRow] at hl
  match xs, hn with
  | [y0, y1], _ =>
    have g0 := hf 0 f0 rfl
    have g1 := hf 1 f1 rfl
    rw [t0, o0, cellsStr] at g0
    rw [t1, o1, cellsInt] at g1
    obtain ⟨s, c0, e0, _⟩ := DataW.trod_string Tryd.underlying9 (x := y0) (by simpa using g0)
    obtain ⟨a1, c1, e1, _⟩ := DataW.trod_int Tryd.underlying3 (x := y1) (by simpa using g1)
    subst e0 e1
    match cs, hl with
    | [v0, v1], _ =>
      simp at c0 c1
      simp [rowD] at hy
      obtain ⟨q0, q1⟩ := hy
      subst c0 c1
      show _ = [Value.string x.1, .int .i64 x.2]
      rw [str_data (congrArg Array.toList q0), q1]
theorem row_datum {H : Type} : (Rows.laid_publican_code_rows : DataW H) = .agg (rwL.map rowD) := rfl
theorem cells_of_rows {H : Type} {enc : TypeId × Value → H} {w : World} {base : Nat} {sp : Nat → Bool} {held : Bool} {fuel : Nat} {cs : List Value} {p : List MemPlace}
    (h : DataW.trod enc Tryd.prog w base sp held fuel 105 cs = some (Rows.laid_publican_code_rows, p)) : ∀ i x, rwL[i]? = some x → ∀ k, k < 2 → cs[i * 2 + k]? = (rowL x)[k]? := by
  intro i x hx k hk
  obtain ⟨xs, m, _, e, hl, hn, hf⟩ := DataW.trod_array Tryd.underlying105 h
  have hi : i < 24 := (List.getElem?_eq_some_iff.1 hx).1
  have hm : xs.map (·.1) = rwL.map rowD := by
    have := congrArg Prod.fst e
    rw [row_datum] at this
    simpa using this.symm
  have g := hf i hi
  rw [cellsRow] at g
  obtain ⟨y, hy⟩ : ∃ y, xs[i]? = some y := ⟨_, List.getElem?_eq_getElem (by omega)⟩
  have y1 : y.1 = rowD x := by
    have := congrArg (·[i]?) hm
    simp [hy, hx] at this
    exact this
  rw [hy] at g
  have := row_cells g y1
  rw [← this, List.getElem?_take, if_pos hk, List.getElem?_drop]
theorem lv_next {P : Program} {w : World} {x : String × DataW Unit} {rest : List (String × DataW Unit)} {ps : List MemPlace} (h : DataW.LaidVars P w (x :: rest) ps) : ∃ q, DataW.LaidVars P w rest q := by
  obtain ⟨g', t', cs, fuel, p, q, hg', ht', hvar, hd, h1, h2⟩ := h
  exact ⟨q, by assumption⟩
theorem tbs_of {W : World} (h : laidMetH Tryd.prog [("math/bits.deBruijn32tab", Rows.laid_math_bits_deBruijn32tab), ("math/bits.deBruijn64tab", Rows.laid_math_bits_deBruijn64tab), ("internal/strconv.uint64pow10", Rows.laid_internal_strconv_uint64pow10), ("publican/pack.halves", Rows.laid_publican_pack_halves), ("publican/code.rows", Rows.laid_publican_code_rows)] W) : Tt W := by
  obtain ⟨ps, h0, _⟩ := (h : laidMet Tryd.prog _ W)
  obtain ⟨p1, h1⟩ := lv_next h0
  obtain ⟨p2, h2⟩ := lv_next h1
  obtain ⟨p3, h3⟩ := lv_next h2
  obtain ⟨p4, h4⟩ := lv_next h3
  have A2 : DataW.LaidVars Tryd.prog W (("internal/strconv.uint64pow10", Lib.tabData .u64 Lib.pow10Tab) :: _) p2 := h2
  have A3 : DataW.LaidVars Tryd.prog W (("publican/pack.halves", Lib.tabData .u32 tabL) :: _) p3 := h3
  have A4 : DataW.LaidVars Tryd.prog W (("publican/code.rows", Rows.laid_publican_code_rows) :: _) p4 := h4
  refine ⟨?_, ?_, ?_⟩
  · have t : Lib.TabIs Tryd.prog W "publican/pack.halves" .u32 tabL := by
      obtain ⟨g', t', cs, fuel, p, q, hg', ht', hvar, hd, _, _⟩ := A3
      obtain rfl := Option.some.inj (gHal.symm.trans hg')
      obtain rfl := Option.some.inj (gHalType.symm.trans ht')
      unfold Lib.TabIs
      rw [hvar, ← Lib.cells_of_tab Tryd.underlying116 Tryd.underlying77 cellsU32 cellsHal hd]
    have c : ∀ i, i < 16 → W.cell? ⟨1, i, none⟩ = some (.int .u32 (tab i : Nat)) := fun i hi => by
      have := t.cell gHal i (by simpa [tabL] using hi)
      rw [this]
      have key : ∀ i : Fin 16, tabL.getD i.val 0 = ((tab i.val : Nat) : Int) := by decide
      rw [key ⟨i, hi⟩]
    exact ⟨World.block_lt_of_cell? _ _ (c 0 (by decide)), c⟩
  · obtain ⟨g', t', cs, fuel, p, q, hg', ht', hvar, hd, _, _⟩ := A4
    obtain rfl := Option.some.inj (gRow.symm.trans hg')
    obtain rfl := Option.some.inj (gRowType.symm.trans ht')
    have R := cells_of_rows hd
    have rk : ∀ i, i < 24 → rwL[i]? = some (nmL.getD i ⟨#[]⟩, ((noL.getD i 0 : Nat) : Int)) := fun i hi => by
      unfold rwL
      rw [List.getElem?_map, List.getElem?_range hi]
      rfl
    have c : ∀ i, i < 24 → W.cell? ⟨0, i * 2, none⟩ = some (.string (nmL.getD i ⟨#[]⟩)) ∧ W.cell? ⟨0, i * 2 + 1, none⟩ = some (.int .i64 ((noL.getD i 0 : Nat) : Int)) := fun i hi => by
      have r0 := R i _ (rk i hi) 0 (by decide)
      have r1 := R i _ (rk i hi) 1 (by decide)
      rw [World.var?_cell gRow hvar, World.var?_cell gRow hvar, ← Array.getElem?_toList, ← Array.getElem?_toList]
      exact ⟨r0, r1⟩
    exact ⟨World.block_lt_of_cell? _ _ (c 0 (by decide)).1, c⟩
  · obtain ⟨g', t', cs, fuel, p, q, hg', ht', hvar, hd, _, _⟩ := A2
    obtain rfl := Option.some.inj (gPow.symm.trans hg')
    obtain rfl := Option.some.inj (gPowType.symm.trans ht')
    unfold Pt Lib.TabIs
    rw [hvar, ← Lib.cells_of_tab Tryd.underlying126 Tryd.underlying107 cellsU64 cellsPow hd]
/-- A world for the witness: the tables laid. -/
noncomputable def laidWorld (os : Os) : World :=
  { World.holding Tryd.prog os ⟨#[], #[], []⟩ with heap := ((((((World.holding Tryd.prog os ⟨#[], #[], []⟩).heap.modify 0 fun
      | .cells _ t frozen => .cells (rwL.flatMap rowL).toArray t frozen
      | o => o).modify 1 fun
      | .cells _ t frozen => .cells (tabL.map fun z => Value.int .u32 z).toArray t frozen
      | o => o).modify 2 fun
      | .cells _ t frozen => .cells (Lib.pow10Tab.map fun z => Value.int .u64 z).toArray t frozen
      | o => o).modify 3 fun
      | .cells _ t frozen => .cells (([0, 1, 28, 2, 29, 14, 24, 3, 30, 22, 20, 15, 25, 17, 4, 8, 31, 27, 13, 23, 21, 19, 16, 7, 26, 12, 18, 6, 11, 5, 10, 9] : List Int).map fun z => Value.int .u8 z).toArray t frozen
      | o => o).modify 4 fun
      | .cells _ t frozen => .cells (([0, 1, 56, 2, 57, 49, 28, 3, 61, 58, 42, 50, 38, 29, 17, 4, 62, 47, 59, 36, 45, 43, 51, 22, 53, 39, 33, 30, 24, 18, 12, 5, 63, 55, 48, 27, 60, 41, 37, 16, 46, 35, 44, 21, 52, 32, 23, 11, 54, 26, 40, 15, 34, 20, 31, 10, 25, 14, 19, 9, 13, 8, 7, 6] : List Int).map fun z => Value.int .u8 z).toArray t frozen
      | o => o) }

end Go.Proofs.YtcmifdnndckpcaaDoor
