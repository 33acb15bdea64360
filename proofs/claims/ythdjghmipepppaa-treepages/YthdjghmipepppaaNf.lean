/- A shelf that may fail. -/
import Derived.Test.YthdjghmipepppaaNd
namespace Go.Proofs.Ythdjghmipepppaa
open Go.RowKit Go.Shelf
set_option linter.unusedVariables false
set_option linter.unusedSimpArgs false

theorem SH.cells {w : World} {P : Nat} {sh : List Pg} {ill n : Nat} (h : SH w P sh ill n) : w.cell? ⟨P, 1, none⟩ = some (.int .i64 (ill : Nat)) ∧ w.cell? ⟨P, 2, none⟩ = some (.int .i64 (n : Nat)) ∧ ∀ i, w.frozen? ⟨P, i, none⟩ = false := by
  obtain ⟨sl, vs, s, o⟩ := h
  exact ⟨s.c1, s.c2, s.fz⟩
theorem SH.max {w : World} {P : Nat} {sh : List Pg} {ill n : Nat} (h : SH w P sh ill n) : sh.length ≤ 9223372036854775807 := by
  obtain ⟨sl, vs, s, o⟩ := h
  have e := s.len
  rcases s.own.2 with ⟨_, q⟩ | ⟨g, cap, cur, _, _, _, q1, q2, _⟩
  · omega
  · unfold maxLen at q2
    omega
theorem SH.set1 {w : World} {P : Nat} {sh : List Pg} {ill n : Nat} (h : SH w P sh ill n) (m : Nat) : SH (w.setCell ⟨P, 1, none⟩ (.int .i64 (m : Nat))) P sh m n ∧ Kp w (w.setCell ⟨P, 1, none⟩ (.int .i64 (m : Nat))) P := by
  obtain ⟨sl, vs, s, o⟩ := h
  exact ⟨⟨sl, vs, (s.set1 m).1, o⟩, Kp.grown (s.set1 m).2⟩
theorem SH.set2 {w : World} {P : Nat} {sh : List Pg} {ill n : Nat} (h : SH w P sh ill n) (m : Nat) : SH (w.setCell ⟨P, 2, none⟩ (.int .i64 (m : Nat))) P sh ill m ∧ Kp w (w.setCell ⟨P, 2, none⟩ (.int .i64 (m : Nat))) P := by
  obtain ⟨sl, vs, s, o⟩ := h
  exact ⟨⟨sl, vs, (s.set2 m).1, o⟩, Kp.grown (s.set2 m).2⟩
/-- What a change on a shelf that may fail leaves. -/
def IlP (w w' : World) (P : Nat) (sh : List Pg) (il : Nat) (e : Ending) : Prop :=
  ∃ (n1 : Nat) (er : Int) (t : List Pg) (nn : Nat), e = .returned (.tuple #[.int .u64 (n1 : Nat), .int .i64 er]) ∧ SH w' P (sh ++ t) il nn ∧ Kp w w' P ∧ nn ≤ 200 ∧ ((nn < il ∧ er = 0) ∨ (nn < il ∧ er = 5) ∨ (nn = il ∧ er = 4 ∧ n1 = 0))
theorem ChS.il {w w' : World} {P : Nat} {sh : List Pg} {il : Nat} {R : List Pg × Nat} {er : Int} {e : Ending} (c : ChS w w' P sh il 0 R er e) (hR : ∃ t, R.1 = sh ++ t) (her : er = 0 ∨ er = 5) (h1 : 1 ≤ il) (h2 : il ≤ 20) : IlP w w' P sh il e := by
  obtain ⟨t, et⟩ := hR
  rcases c with ⟨n', e1, s, k, _, l, q⟩ | ⟨t', e1, s, k, _⟩
  · rw [et] at s
    exact ⟨_, er, t, n', e1, s, k, by omega, by rcases her with q2 | q2 <;> rcases q with q3 | q3 <;> omega⟩
  · exact ⟨0, 4, t', il, e1, s, k, by omega, Or.inr (Or.inr ⟨rfl, rfl, rfl⟩)⟩
theorem acts_one {w : World} {g : Nat} {x : Ac} (h : AcAt w g 0 x) : Acts w (some ⟨g, 0, none⟩) 1 1 (fun _ => x) := by
  refine ⟨Nat.le_refl _, by unfold maxLen; omega, g, 0, fun _ => rfl, fun i hi => ?_⟩
  obtain rfl : i = 0 := by omega
  exact h
theorem acAt_new (w : World) (xk xv : ByteArray) (xd : Bool) (t : TypeId) : AcAt (w.alloc (.cells #[.string xk, .string xv, .bool xd] t)) w.heap.size 0 ⟨xk, xv, xd⟩ :=
  ⟨by rw [cell_alloc_new]; rfl, by rw [cell_alloc_new]; rfl, by rw [cell_alloc_new]; rfl⟩

end Go.Proofs.Ythdjghmipepppaa

