/- What the rows give the walks: the tables in their places. -/
import Derived.Test.YtjkbiglnpoeddaaDoorVgb
import Derived.Test.YtjkbiglnpoeddaaDoorRows
import Derived.ProofKit
import Derived.OpenShut
import Derived.ShutString
import Derived.ChangeOld
import Derived.Below
import Derived.ChangeMaps5
import Derived.Deep.DeepHandedRow
import Derived.Lib.LaidTab
namespace Go.Proofs.YtjkbiglnpoeddaaDoor.Vf
open Go.ChangeShapes Go.WideShapes Go.ChangeAt Go.RowKit
set_option linter.unusedVariables false
set_option linter.unusedSimpArgs false

theorem own : ownKnob Tryd.prog.godebug = none := by kernel_rfl
theorem laidOut : laidOutB Tryd.prog = true := by kernel_rfl
theorem gRow : Tryd.prog.globalNamed "publican/code.rows" = some 0 := by kernel_rfl
theorem gRowType : (Tryd.prog.globals[0]?).map (·.type) = some 101 := by kernel_rfl
theorem cellsRows : Tryd.prog.cellsOf 101 = 48 := by kernel_rfl
theorem cellsRow : Tryd.prog.cellsOf 87 = 2 := by kernel_rfl
theorem cellsStr : Tryd.prog.cellsOf 9 = 1 := by kernel_rfl
theorem cellsInt : Tryd.prog.cellsOf 3 = 1 := by kernel_rfl
def rwL : List (ByteArray × Int) := (List.range 24).map fun i => (nmL.getD i ⟨#[]⟩, ((noL.getD i 0 : Nat) : Int))
def rowD {H : Type} (x : ByteArray × Int) : DataW H := .agg [.lit (.string x.1.data.toList), .lit (.int .i64 x.2)]
def rowL (x : ByteArray × Int) : List Value := [.string x.1, .int .i64 x.2]
theorem str_data {s t : ByteArray} (h : s.data.toList = t.data.toList) : s = t := by
  obtain ⟨x⟩ := s
  obtain ⟨y⟩ := t
  have : x = y := Array.toList_inj.1 h
  rw [this]
theorem fieldsRow : ∃ f0 f1 : Field, Tryd.prog.underlying 87 = some (.struct #[f0, f1]) ∧ (f0.type = 9 ∧ f0.offset = 0) ∧ (f1.type = 3 ∧ f1.offset = 1) := ⟨_, _, Tryd.underlying87, ⟨rfl, rfl⟩, ⟨rfl, rfl⟩⟩
set_option maxRecDepth 100000 in
theorem row_cells {H : Type} {enc : TypeId × Value → H} {w : World} {base : Nat} {sp : Nat → Bool} {held : Bool} {fuel : Nat} {cs : List Value} {y : DataW H × List MemPlace} {x : ByteArray × Int}
    (h : DataW.trod enc Tryd.prog w base sp held fuel 87 cs = some y) (hy : y.1 = rowD x) : cs = rowL x := by
  obtain ⟨f0, f1, hu, ⟨t0, o0⟩, ⟨t1, o1⟩⟩ := fieldsRow
  obtain ⟨xs, n, _, rfl, hl, hn, hf⟩ := DataW.trod_struct hu h
  rw [cellsRow] at hl
  match xs, hn with
  | [y0, y1], _ =>
    have g0 := hf 0 f0 rfl
    have g1 := hf 1 f1 rfl
    rw [t0, o0, cellsStr] at g0
    rw [t1, o1, cellsInt] at g1
    obtain ⟨s, c0, e0, _⟩ := DataW.trod_string Tryd.underlying9 (x := y0) (by simpa using g0)
    obtain ⟨a1, c1, e1, _⟩ := DataW.trod_int Tryd.underlying3 (x := y1) (by simpa using g1)
    subst e0 e1
    match cs, hl with
    | [v0, v1], _ =>
      simp at c0 c1
      simp [rowD] at hy
      obtain ⟨q0, q1⟩ := hy
      subst c0 c1
      show _ = [Value.string x.1, .int .i64 x.2]
      rw [str_data (congrArg Array.toList q0), q1]
theorem row_datum {H : Type} : (Rows.laid_publican_code_rows : DataW H) = .agg (rwL.map rowD) := rfl
theorem cells_of_rows {H : Type} {enc : TypeId × Value → H} {w : World} {base : Nat} {sp : Nat → Bool} {held : Bool} {fuel : Nat} {cs : List Value} {p : List MemPlace}
    (h : DataW.trod enc Tryd.prog w base sp held fuel 101 cs = some (Rows.laid_publican_code_rows, p)) : ∀ i x, rwL[i]? = some x → ∀ k, k < 2 → cs[i * 2 + k]? = (rowL x)[k]? := by
  intro i x hx k hk
  obtain ⟨xs, m, _, e, hl, hn, hf⟩ := DataW.trod_array Tryd.underlying101 h
  have hi : i < 24 := (List.getElem?_eq_some_iff.1 hx).1
  have hm : xs.map (·.1) = rwL.map rowD := by
    have := congrArg Prod.fst e
    rw [row_datum] at this
    simpa using this.symm
  have g := hf i hi
  rw [cellsRow] at g
  obtain ⟨y, hy⟩ : ∃ y, xs[i]? = some y := ⟨_, List.getElem?_eq_getElem (by omega)⟩
  have y1 : y.1 = rowD x := by
    have := congrArg (·[i]?) hm
    simp [hy, hx] at this
    exact this
  rw [hy] at g
  have := row_cells g y1
  rw [← this, List.getElem?_take, if_pos hk, List.getElem?_drop]
theorem tbs_of {W : World} (h : laidMetH Tryd.prog [("publican/code.rows", Rows.laid_publican_code_rows), ("publican/verify.units", Rows.laid_publican_verify_units)] W) : RT W := by
  obtain ⟨ps, h0, _⟩ := (h : laidMet Tryd.prog _ W)
  have A4 : DataW.LaidVars Tryd.prog W (("publican/code.rows", Rows.laid_publican_code_rows) :: _) ps := h0
  obtain ⟨g', t', cs, fuel, p, q, hg', ht', hvar, hd, _, _⟩ := A4
  obtain rfl := Option.some.inj (gRow.symm.trans hg')
  obtain rfl := Option.some.inj (gRowType.symm.trans ht')
  have R := cells_of_rows hd
  have rk : ∀ i, i < 24 → rwL[i]? = some (nmL.getD i ⟨#[]⟩, ((noL.getD i 0 : Nat) : Int)) := fun i hi => by
    unfold rwL
    rw [List.getElem?_map, List.getElem?_range hi]
    rfl
  have c : ∀ i, i < 24 → W.cell? ⟨0, i * 2, none⟩ = some (.string (nmL.getD i ⟨#[]⟩)) ∧ W.cell? ⟨0, i * 2 + 1, none⟩ = some (.int .i64 ((noL.getD i 0 : Nat) : Int)) := fun i hi => by
    have r0 := R i _ (rk i hi) 0 (by decide)
    have r1 := R i _ (rk i hi) 1 (by decide)
    rw [World.var?_cell gRow hvar, World.var?_cell gRow hvar, ← Array.getElem?_toList, ← Array.getElem?_toList]
    exact ⟨r0, r1⟩
  exact ⟨World.block_lt_of_cell? _ _ (c 0 (by decide)).1, c⟩
/-- A world for the witness: the tables laid. -/
noncomputable def laidWorld (os : Os) : World :=
  { World.holding Tryd.prog os ⟨#[], #[], []⟩ with heap := (((World.holding Tryd.prog os ⟨#[], #[], []⟩).heap.modify 0 fun
      | .cells _ t frozen => .cells (rwL.flatMap rowL).toArray t frozen
      | o => o).modify 1 fun
      | .cells _ t frozen => .cells unA t frozen
      | o => o) }

end Go.Proofs.YtjkbiglnpoeddaaDoor.Vf
