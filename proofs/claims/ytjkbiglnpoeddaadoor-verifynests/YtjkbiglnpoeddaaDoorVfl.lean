/- The table of units loaded in whole; the walk over verify's operated. -/
import Derived.Test.YtjkbiglnpoeddaaDoorVfk
import Derived.Laws.Rows
namespace Go.Proofs.YtjkbiglnpoeddaaDoor.Vf
open Go.RowKit
set_option linter.unusedVariables false
set_option linter.unusedSimpArgs false

def unL : List (ByteArray × Int × Int × Int) := [(⟨#[97, 100, 100]⟩, 2, 2, 2), (⟨#[97, 100, 100]⟩, 3, 3, 3), (⟨#[97, 100, 100]⟩, 4, 4, 4), (⟨#[97, 100, 100]⟩, 5, 5, 2), (⟨#[115, 117, 98]⟩, 2, 2, 2), (⟨#[115, 117, 98]⟩, 2, 5, 5), (⟨#[115, 117, 98]⟩, 3, 3, 3), (⟨#[115, 117, 98]⟩, 4, 4, 4), (⟨#[115, 117, 98]⟩, 5, 5, 2), (⟨#[109, 117, 108]⟩, 2, 2, 2), (⟨#[109, 117, 108]⟩, 3, 3, 2), (⟨#[109, 117, 108]⟩, 3, 2, 3), (⟨#[109, 117, 108]⟩, 3, 3, 4), (⟨#[109, 117, 108]⟩, 3, 4, 3), (⟨#[109, 117, 108]⟩, 4, 4, 2), (⟨#[109, 117, 108]⟩, 4, 2, 4), (⟨#[100, 105, 118]⟩, 2, 2, 2), (⟨#[100, 105, 118]⟩, 3, 3, 2), (⟨#[100, 105, 118]⟩, 4, 3, 3)]
def unA : Array Value := #[.string ⟨#[97, 100, 100]⟩, .int .i64 2, .int .i64 2, .int .i64 2, .string ⟨#[97, 100, 100]⟩, .int .i64 3, .int .i64 3, .int .i64 3, .string ⟨#[97, 100, 100]⟩, .int .i64 4, .int .i64 4, .int .i64 4, .string ⟨#[97, 100, 100]⟩, .int .i64 5, .int .i64 5, .int .i64 2, .string ⟨#[115, 117, 98]⟩, .int .i64 2, .int .i64 2, .int .i64 2, .string ⟨#[115, 117, 98]⟩, .int .i64 2, .int .i64 5, .int .i64 5, .string ⟨#[115, 117, 98]⟩, .int .i64 3, .int .i64 3, .int .i64 3, .string ⟨#[115, 117, 98]⟩, .int .i64 4, .int .i64 4, .int .i64 4, .string ⟨#[115, 117, 98]⟩, .int .i64 5, .int .i64 5, .int .i64 2, .string ⟨#[109, 117, 108]⟩, .int .i64 2, .int .i64 2, .int .i64 2, .string ⟨#[109, 117, 108]⟩, .int .i64 3, .int .i64 3, .int .i64 2, .string ⟨#[109, 117, 108]⟩, .int .i64 3, .int .i64 2, .int .i64 3, .string ⟨#[109, 117, 108]⟩, .int .i64 3, .int .i64 3, .int .i64 4, .string ⟨#[109, 117, 108]⟩, .int .i64 3, .int .i64 4, .int .i64 3, .string ⟨#[109, 117, 108]⟩, .int .i64 4, .int .i64 4, .int .i64 2, .string ⟨#[109, 117, 108]⟩, .int .i64 4, .int .i64 2, .int .i64 4, .string ⟨#[100, 105, 118]⟩, .int .i64 2, .int .i64 2, .int .i64 2, .string ⟨#[100, 105, 118]⟩, .int .i64 3, .int .i64 3, .int .i64 2, .string ⟨#[100, 105, 118]⟩, .int .i64 4, .int .i64 3, .int .i64 3]
def UT (w : World) : Prop := 1 < w.heap.size ∧ ∀ i, i < 76 → w.cell? ⟨1, i, none⟩ = unA[i]?
theorem UT.keep {w w' : World} (h : UT w) (hs : w.heap.size ≤ w'.heap.size) (hb : w'.heap[1]? = w.heap[1]?) : UT w' :=
  ⟨by have := h.1; omega, fun i hi => (World.cell?_of_block (a := ⟨1, i, none⟩) hb).trans (h.2 i hi)⟩
theorem UT.next {w w' : World} (h : UT w) (hb : Below w.heap.size w w') : UT w' := h.keep hb.size (hb.block 1 h.1)
theorem unInfo : (Tryd.prog.info? 104).map (·.size) = some 76 := by kernel_rfl
theorem run_un {w : World} (hT : UT w) : (loadVar 104 ⟨1, 0, none⟩).run Tryd.prog w = .ok (.agg unA) w := by
  have hl : (loadCells ⟨1, 0, none⟩ unA.toList.length).run Tryd.prog w = .ok unA.toList.toArray w :=
    run_loadCells_list (P := Tryd.prog) w ⟨1, 0, none⟩ unA.toList (fun j v hv => by
      have hadd : (⟨1, 0, none⟩ : Addr).add j = ⟨1, j, none⟩ := by unfold Addr.add; split <;> simp_all
      have hj : j < 76 := (List.getElem?_eq_some_iff.1 hv).1
      rw [hadd, hT.2 j hj]
      simpa using hv)
  have hu : Tryd.prog.underlying 104 = some _ := Tryd.underlying104
  cases hq : Tryd.prog.info? 104 with
  | none => have := unInfo; rw [hq] at this; cases this
  | some i =>
    have hs : i.size = 76 := by have := unInfo; rw [hq] at this; simpa using this
    have hagg : (isAgg 104).run Tryd.prog w = .ok true w := by
      unfold isAgg
      rw [Sem.run_bind, run_underlying hu w]
      simp
    have hn : unA.toList.length = 76 := rfl
    rw [hn, Array.toArray_toList] at hl
    simp only [loadVar, Sem.run_bind, hagg, sizeOf, typeInfo, hq, hs, hl]
    simp [hq, hs, hl]
theorem wpList_un {w : World} {ops : Array Oper} {rest : List Oper} {o : Oper} {a : Act} {Q : Exit → Act → World → Prop} (hgd : o.guard = none) (ho : o.op = .load 104 (.global 1)) (hT : UT w)
    (h : wpList Tryd.prog ops Q rest (a.put o.dst (.agg unA)) w) : wpList Tryd.prog ops Q (o :: rest) a w := by
  refine wpList_plain hgd fun _ hK => ?_
  have hr := run_un hT
  unfold Oper.wp execOp
  have hx : a.eval (.global 1) = .pointer (some ⟨1, 0, none⟩) := rfl
  simp only [ho, hx, Instr.loadAt, Instr.sureAddr, Sem.run_bind, Sem.run_pure, Result.andThen_ok, hr]
  exact hK _ _ h
set_option maxRecDepth 100000 in
theorem idxu_0 (w : World) : (Instr.index 104 (.agg unA) (.int .i64 0)).run Tryd.prog w = .ok (.agg #[.string ⟨#[97, 100, 100]⟩, .int .i64 2, .int .i64 2, .int .i64 2]) w := by kernel_rfl
set_option maxRecDepth 100000 in
theorem idxu_1 (w : World) : (Instr.index 104 (.agg unA) (.int .i64 1)).run Tryd.prog w = .ok (.agg #[.string ⟨#[97, 100, 100]⟩, .int .i64 3, .int .i64 3, .int .i64 3]) w := by kernel_rfl
set_option maxRecDepth 100000 in
theorem idxu_2 (w : World) : (Instr.index 104 (.agg unA) (.int .i64 2)).run Tryd.prog w = .ok (.agg #[.string ⟨#[97, 100, 100]⟩, .int .i64 4, .int .i64 4, .int .i64 4]) w := by kernel_rfl
set_option maxRecDepth 100000 in
theorem idxu_3 (w : World) : (Instr.index 104 (.agg unA) (.int .i64 3)).run Tryd.prog w = .ok (.agg #[.string ⟨#[97, 100, 100]⟩, .int .i64 5, .int .i64 5, .int .i64 2]) w := by kernel_rfl
set_option maxRecDepth 100000 in
theorem idxu_4 (w : World) : (Instr.index 104 (.agg unA) (.int .i64 4)).run Tryd.prog w = .ok (.agg #[.string ⟨#[115, 117, 98]⟩, .int .i64 2, .int .i64 2, .int .i64 2]) w := by kernel_rfl
set_option maxRecDepth 100000 in
theorem idxu_5 (w : World) : (Instr.index 104 (.agg unA) (.int .i64 5)).run Tryd.prog w = .ok (.agg #[.string ⟨#[115, 117, 98]⟩, .int .i64 2, .int .i64 5, .int .i64 5]) w := by kernel_rfl
set_option maxRecDepth 100000 in
theorem idxu_6 (w : World) : (Instr.index 104 (.agg unA) (.int .i64 6)).run Tryd.prog w = .ok (.agg #[.string ⟨#[115, 117, 98]⟩, .int .i64 3, .int .i64 3, .int .i64 3]) w := by kernel_rfl
set_option maxRecDepth 100000 in
theorem idxu_7 (w : World) : (Instr.index 104 (.agg unA) (.int .i64 7)).run Tryd.prog w = .ok (.agg #[.string ⟨#[115, 117, 98]⟩, .int .i64 4, .int .i64 4, .int .i64 4]) w := by kernel_rfl
set_option maxRecDepth 100000 in
theorem idxu_8 (w : World) : (Instr.index 104 (.agg unA) (.int .i64 8)).run Tryd.prog w = .ok (.agg #[.string ⟨#[115, 117, 98]⟩, .int .i64 5, .int .i64 5, .int .i64 2]) w := by kernel_rfl
set_option maxRecDepth 100000 in
theorem idxu_9 (w : World) : (Instr.index 104 (.agg unA) (.int .i64 9)).run Tryd.prog w = .ok (.agg #[.string ⟨#[109, 117, 108]⟩, .int .i64 2, .int .i64 2, .int .i64 2]) w := by kernel_rfl
set_option maxRecDepth 100000 in
theorem idxu_10 (w : World) : (Instr.index 104 (.agg unA) (.int .i64 10)).run Tryd.prog w = .ok (.agg #[.string ⟨#[109, 117, 108]⟩, .int .i64 3, .int .i64 3, .int .i64 2]) w := by kernel_rfl
set_option maxRecDepth 100000 in
theorem idxu_11 (w : World) : (Instr.index 104 (.agg unA) (.int .i64 11)).run Tryd.prog w = .ok (.agg #[.string ⟨#[109, 117, 108]⟩, .int .i64 3, .int .i64 2, .int .i64 3]) w := by kernel_rfl
set_option maxRecDepth 100000 in
theorem idxu_12 (w : World) : (Instr.index 104 (.agg unA) (.int .i64 12)).run Tryd.prog w = .ok (.agg #[.string ⟨#[109, 117, 108]⟩, .int .i64 3, .int .i64 3, .int .i64 4]) w := by kernel_rfl
set_option maxRecDepth 100000 in
theorem idxu_13 (w : World) : (Instr.index 104 (.agg unA) (.int .i64 13)).run Tryd.prog w = .ok (.agg #[.string ⟨#[109, 117, 108]⟩, .int .i64 3, .int .i64 4, .int .i64 3]) w := by kernel_rfl
set_option maxRecDepth 100000 in
theorem idxu_14 (w : World) : (Instr.index 104 (.agg unA) (.int .i64 14)).run Tryd.prog w = .ok (.agg #[.string ⟨#[109, 117, 108]⟩, .int .i64 4, .int .i64 4, .int .i64 2]) w := by kernel_rfl
set_option maxRecDepth 100000 in
theorem idxu_15 (w : World) : (Instr.index 104 (.agg unA) (.int .i64 15)).run Tryd.prog w = .ok (.agg #[.string ⟨#[109, 117, 108]⟩, .int .i64 4, .int .i64 2, .int .i64 4]) w := by kernel_rfl
set_option maxRecDepth 100000 in
theorem idxu_16 (w : World) : (Instr.index 104 (.agg unA) (.int .i64 16)).run Tryd.prog w = .ok (.agg #[.string ⟨#[100, 105, 118]⟩, .int .i64 2, .int .i64 2, .int .i64 2]) w := by kernel_rfl
set_option maxRecDepth 100000 in
theorem idxu_17 (w : World) : (Instr.index 104 (.agg unA) (.int .i64 17)).run Tryd.prog w = .ok (.agg #[.string ⟨#[100, 105, 118]⟩, .int .i64 3, .int .i64 3, .int .i64 2]) w := by kernel_rfl
set_option maxRecDepth 100000 in
theorem idxu_18 (w : World) : (Instr.index 104 (.agg unA) (.int .i64 18)).run Tryd.prog w = .ok (.agg #[.string ⟨#[100, 105, 118]⟩, .int .i64 4, .int .i64 3, .int .i64 3]) w := by kernel_rfl
theorem idx_un : ∀ (i : Nat) (x : ByteArray × Int × Int × Int), unL[i]? = some x → ∀ w, (Instr.index 104 (.agg unA) (.int .i64 (i : Nat))).run Tryd.prog w = .ok (.agg #[.string x.1, .int .i64 x.2.1, .int .i64 x.2.2.1, .int .i64 x.2.2.2]) w := by
  intro i x h w
  match i, h with
  | 0, h => cases (Option.some.inj h); exact idxu_0 w
  | 1, h => cases (Option.some.inj h); exact idxu_1 w
  | 2, h => cases (Option.some.inj h); exact idxu_2 w
  | 3, h => cases (Option.some.inj h); exact idxu_3 w
  | 4, h => cases (Option.some.inj h); exact idxu_4 w
  | 5, h => cases (Option.some.inj h); exact idxu_5 w
  | 6, h => cases (Option.some.inj h); exact idxu_6 w
  | 7, h => cases (Option.some.inj h); exact idxu_7 w
  | 8, h => cases (Option.some.inj h); exact idxu_8 w
  | 9, h => cases (Option.some.inj h); exact idxu_9 w
  | 10, h => cases (Option.some.inj h); exact idxu_10 w
  | 11, h => cases (Option.some.inj h); exact idxu_11 w
  | 12, h => cases (Option.some.inj h); exact idxu_12 w
  | 13, h => cases (Option.some.inj h); exact idxu_13 w
  | 14, h => cases (Option.some.inj h); exact idxu_14 w
  | 15, h => cases (Option.some.inj h); exact idxu_15 w
  | 16, h => cases (Option.some.inj h); exact idxu_16 w
  | 17, h => cases (Option.some.inj h); exact idxu_17 w
  | 18, h => cases (Option.some.inj h); exact idxu_18 w
  | i + 19, h => simp [unL] at h

end Go.Proofs.YtjkbiglnpoeddaaDoor.Vf
