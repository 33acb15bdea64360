/- The table of signs loaded in whole. -/
import Derived.Test.YtobolipjgkabhaaDoorLe
import Derived.Laws.Rows
namespace Go.Proofs.YtobolipjgkabhaaDoor
open Go.RowKit
set_option linter.unusedVariables false
set_option linter.unusedSimpArgs false

theorem signsInfo : (Tryd.prog.info? 48).map (·.size) = some 20 := by kernel_rfl
theorem run_tab {w : World} (hT : Tab w) : (loadVar 48 ⟨0, 0, none⟩).run Tryd.prog w = .ok (.agg tabA) w := by
  have hl : (loadCells ⟨0, 0, none⟩ tabA.toList.length).run Tryd.prog w = .ok tabA.toList.toArray w :=
    run_loadCells_list (P := Tryd.prog) w ⟨0, 0, none⟩ tabA.toList (fun j v hv => by
      have hadd : (⟨0, 0, none⟩ : Addr).add j = ⟨0, j, none⟩ := by unfold Addr.add; split <;> simp_all
      have hj : j < 20 := (List.getElem?_eq_some_iff.1 hv).1
      rw [hadd, hT.2 j hj, ← tab_at j hj]
      simpa using hv)
  have hu : Tryd.prog.underlying 48 = some _ := Tryd.underlying48
  cases hq : Tryd.prog.info? 48 with
  | none => have := signsInfo; rw [hq] at this; cases this
  | some i =>
    have hs : i.size = 20 := by have := signsInfo; rw [hq] at this; simpa using this
    have hagg : (isAgg 48).run Tryd.prog w = .ok true w := by
      unfold isAgg
      rw [Sem.run_bind, run_underlying hu w]
      simp
    have hn : tabA.toList.length = 20 := rfl
    rw [hn, Array.toArray_toList] at hl
    simp only [loadVar, Sem.run_bind, hagg, sizeOf, typeInfo, hq, hs, hl]
    simp [hq, hs, hl]
theorem wpList_tab {w : World} {ops : Array Oper} {rest : List Oper} {o : Oper} {a : Act} {Q : Exit → Act → World → Prop} (hgd : o.guard = none) (ho : o.op = .load 48 (.global 0)) (hT : Tab w)
    (h : wpList Tryd.prog ops Q rest (a.put o.dst (.agg tabA)) w) : wpList Tryd.prog ops Q (o :: rest) a w := by
  refine wpList_plain hgd fun _ hK => ?_
  have hr := run_tab hT
  unfold Oper.wp execOp
  have hx : a.eval (.global 0) = .pointer (some ⟨0, 0, none⟩) := rfl
  simp only [ho, hx, Instr.loadAt, Instr.sureAddr, Sem.run_bind, Sem.run_pure, Result.andThen_ok, hr]
  exact hK _ _ h
end Go.Proofs.YtobolipjgkabhaaDoor
