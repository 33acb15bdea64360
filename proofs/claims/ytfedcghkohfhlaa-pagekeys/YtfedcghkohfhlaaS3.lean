/- append to a slice that is empty and has no room. -/
import Derived.Test.YtfedcghkohfhlaaU1
import Derived.ArgAppend
namespace Go.Proofs.Ytfedcghkohfhlaa
open Go.RowKit
set_option linter.unusedVariables false
set_option linter.unusedSimpArgs false

theorem run_append_fresh {w : World} (S T : TypeId) (z : Value) (by0 : Nat) (hu : Try.prog.underlying S = some (.slice T)) (hinf : (Try.prog.info? T).map (fun i => (i.zero, i.size, i.bytes)) = some (some z, 1, by0)) (hz : z.cells.size = 1) (hby : by0 ≤ 16) (ty : TypeId)
    (g : Nat) (ad : Option Addr) (m c : Nat) (vs : List Value) (hb : Sl w ad m c vs) (hm : m ≤ 1000000) :
    ∃ a' c' w', (Builtin.append_ #[S, S] ty #[.slice (some ⟨g, 0, none⟩) 0 0, .slice ad m c]).run Try.prog w = .ok (.slice a' m c') w' ∧ Sl w' a' m c' vs ∧ (∀ x, a' = some x → 0 < m → w.heap.size ≤ x.block) ∧ Below w.heap.size w w' := by
  obtain ⟨i0, hi, hz0, hz1, hz2⟩ := info_parts hinf
  have nil : ∀ x : Addr, vs = [] → Sl w (some x) 0 0 vs := fun x e => by
    subst e
    exact ⟨rfl, Nat.le_refl _, Nat.zero_le _, fun e => rfl, ⟨0, 0, fun p => absurd p (Nat.lt_irrefl 0), fun i u hi => by simp at hi⟩, fun u hu => by simp at hu⟩
  cases ad with
  | none =>
    obtain ⟨rfl, rfl, rfl⟩ := hb.none_nil
    refine ⟨some ⟨g, 0, none⟩, 0, w, ?_, nil _ rfl, fun x _ p => absurd p (Nat.lt_irrefl 0), Below.refl _ _⟩
    simp [Builtin.append_, run_underlying hu, sizeOf, typeInfo, hi, Builtin.lenOf, Builtin.firstCells, storeCells]
  | some x =>
    rcases Nat.eq_zero_or_pos m with rfl | mp
    · have e : vs = [] := List.length_eq_zero_iff.1 hb.len
      refine ⟨some ⟨g, 0, none⟩, 0, w, ?_, nil _ e, fun x _ p => absurd p (Nat.lt_irrefl 0), Below.refl _ _⟩
      have := run_append_room_cells (P := Try.prog) w S ty T i0 hu hi g 0 0 0 x 0 c [] (by simp) (fun j u hj => by simp at hj) (fun u hu => by simp at hu) (Nat.le_refl _) (fun j hj => by simp at hj) (fun j hj => by simp at hj)
      exact this
    · obtain ⟨v', w', hr, h2, h3⟩ := run_append_arg_grows (P := Try.prog) w S ty T i0 z 1 by0 hu hi hz0 hz1 hz2 hz (by decide) ⟨g, 0, none⟩ 0 0 [] rfl (fun j u hj => by simp at hj) x m c vs (by simp [hb.len]) hb.news (by omega) (by unfold maxLen; omega) (by
        have : (0 + m) * by0 ≤ 1000000 * 16 := Nat.mul_le_mul (by omega) hby
        omega)
      rw [List.nil_append, Nat.zero_add] at h2
      have ow : Ow w' T w.heap.size v' vs := ⟨by rw [hb.len]; exact h2, hb.one⟩
      obtain ⟨a', c', rfl, s, zz, _⟩ := ow.sl
      rw [hb.len] at hr s
      exact ⟨a', c', w', hr, s, fun x hx _ => (zz x hx).1, (Below.refl _ _).grown h3 (Nat.le_refl _) (fun k hk => by cases hk)⟩
theorem step_append_fresh {w : World} {ops : Array Oper} {o : Oper} {a : Act} {K : Act → World → Prop} {Q : Exit → Act → World → Prop} {E : Prop} (S T : TypeId) (z : Value) (by0 : Nat) (hu : Try.prog.underlying S = some (.slice T)) (hinf : (Try.prog.info? T).map (fun i => (i.zero, i.size, i.bytes)) = some (some z, 1, by0)) (hz : z.cells.size = 1) (hby : by0 ≤ 16)
    (hgd : o.guard = none) (s x : Operand) (ho : o.op = .call { callee := .builtin .append, args := #[s, x], argTypes := #[S, S] })
    (g : Nat) (hs : a.eval s = .slice (some ⟨g, 0, none⟩) 0 0) (ad : Option Addr) (m c : Nat) (vs : List Value) (hx : a.eval x = .slice ad m c) (hb : Sl w ad m c vs) (hm : m ≤ 1000000)
    (h : ∀ a' c' w', Sl w' a' m c' vs → (∀ x, a' = some x → 0 < m → w.heap.size ≤ x.block) → Below w.heap.size w w' → K (a.put o.dst (.slice a' m c')) w') : if Region.wanted o (yielded ops a.tmps) = true then Oper.wp Try.prog o a w K Q else E := by
  have hw : Region.wanted o (yielded ops a.tmps) = true := by simp [Region.wanted, hgd]
  rw [if_pos hw]
  obtain ⟨a', c', w', hr, h2, h3, h4⟩ := run_append_fresh S T z by0 hu hinf hz hby o.type g ad m c vs hb hm
  unfold Oper.wp execOp
  simp only [ho, resolve, invoke, builtin, Sem.run_bind, Sem.run_pure, Result.andThen_ok, List.map_toArray, List.map_cons, List.map_nil, hs, hx, hr]
  exact h a' c' w' h2 h3 h4

end Go.Proofs.Ytfedcghkohfhlaa
