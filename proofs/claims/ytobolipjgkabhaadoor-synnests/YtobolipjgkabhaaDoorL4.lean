/- The walks over package lex, on: Kept; a word's four cells. -/
import Derived.Test.YtobolipjgkabhaaDoorL3
namespace Go.Proofs.YtobolipjgkabhaaDoor
open Go.RowKit
set_option linter.unusedVariables false
set_option linter.unusedSimpArgs false

set_option maxHeartbeats 4000000 in
theorem kept_any (s : ByteArray) (w : World) :
    Calls Tryd.prog 41 #[.string s] w fun e w' => e = .returned (.bool (keptB s.data.toList)) ∧ w = w' := by
  rw [← ByteArray.toList_eq]
  go_enter Tryd.func41, Tryd.ntmps41
  go_wp2_with fail
  all_goals go_ret
  all_goals refine ⟨congrArg (fun b => Ending.returned (Value.bool b)) ?_, rfl⟩
  all_goals (unfold keptB; simp_all)

/-- A word's four cells, in a block of one's own. -/
structure X4 (w0 w : World) (b : Nat) (v0 v1 v2 v3 : Value) : Prop where
  c0 : w.cell? ⟨b, 0, none⟩ = some v0
  c1 : w.cell? ⟨b, 1, none⟩ = some v1
  c2 : w.cell? ⟨b, 2, none⟩ = some v2
  c3 : w.cell? ⟨b, 3, none⟩ = some v3
  fz : ∀ o, w.frozen? ⟨b, o, none⟩ = false
  bl : Below w0.heap.size w0 w
  ge : w0.heap.size ≤ b
theorem X4.lt {w0 w : World} {b : Nat} {v0 v1 v2 v3 : Value} (h : X4 w0 w b v0 v1 v2 v3) : b < w.heap.size := World.block_lt_of_cell? _ _ h.c0
theorem X4.new (w : World) (t : TypeId) (v0 v1 v2 v3 : Value) : X4 w (w.alloc (.cells #[v0, v1, v2, v3] t)) w.heap.size v0 v1 v2 v3 :=
  ⟨by simp, by simp, by simp, by simp, fun o => by simp, (Below.refl _ _).alloc (Nat.le_refl _) _, Nat.le_refl _⟩
theorem X4.next {w0 w w' : World} {b : Nat} {v0 v1 v2 v3 : Value} (h : X4 w0 w b v0 v1 v2 v3) (q : Below w.heap.size w w') : X4 w0 w' b v0 v1 v2 v3 :=
  ⟨by rw [q.cell (p := ⟨b, 0, none⟩) h.lt]; exact h.c0, by rw [q.cell (p := ⟨b, 1, none⟩) h.lt]; exact h.c1, by rw [q.cell (p := ⟨b, 2, none⟩) h.lt]; exact h.c2, by rw [q.cell (p := ⟨b, 3, none⟩) h.lt]; exact h.c3, fun o => by rw [q.frozen (p := ⟨b, o, none⟩) h.lt]; exact h.fz o, nextB h.bl q, h.ge⟩
theorem X4.set {w0 w : World} {b : Nat} {z0 z1 z2 z3 : Value} (h : X4 w0 w b z0 z1 z2 z3) (v0 v1 v2 v3 : Value) : X4 w0 ((((w.setCell ⟨b, 0, none⟩ v0).setCell ⟨b, 1, none⟩ v1).setCell ⟨b, 2, none⟩ v2).setCell ⟨b, 3, none⟩ v3) b v0 v1 v2 v3 := by
  have ne : ∀ i j : Nat, i ≠ j → (⟨b, i, none⟩ : Addr) ≠ ⟨b, j, none⟩ := fun i j h k => by injection k with _ k; exact h k
  refine ⟨?_, ?_, ?_, ?_, fun o => by simpa using h.fz o, (((h.bl.setCell (p := ⟨b, 0, none⟩) h.ge _).setCell (p := ⟨b, 1, none⟩) h.ge _).setCell (p := ⟨b, 2, none⟩) h.ge _).setCell (p := ⟨b, 3, none⟩) h.ge _, h.ge⟩
  · rw [World.cell?_setCell_other _ _ _ _ (ne _ _ (by decide)), World.cell?_setCell_other _ _ _ _ (ne _ _ (by decide)), World.cell?_setCell_other _ _ _ _ (ne _ _ (by decide))]
    exact World.cell?_setCell_same _ _ _ h.c0
  · rw [World.cell?_setCell_other _ _ _ _ (ne _ _ (by decide)), World.cell?_setCell_other _ _ _ _ (ne _ _ (by decide))]
    exact World.cell?_setCell_same _ _ _ ((World.cell?_setCell_other _ _ _ _ (ne _ _ (by decide))).trans h.c1)
  · rw [World.cell?_setCell_other _ _ _ _ (ne _ _ (by decide))]
    exact World.cell?_setCell_same _ _ _ ((World.cell?_setCell_other _ _ _ _ (ne _ _ (by decide))).trans ((World.cell?_setCell_other _ _ _ _ (ne _ _ (by decide))).trans h.c2))
  · exact World.cell?_setCell_same _ _ _ ((World.cell?_setCell_other _ _ _ _ (ne _ _ (by decide))).trans ((World.cell?_setCell_other _ _ _ _ (ne _ _ (by decide))).trans ((World.cell?_setCell_other _ _ _ _ (ne _ _ (by decide))).trans h.c3)))
theorem X4.set0 {w0 w : World} {b : Nat} {z0 z1 z2 z3 : Value} (h : X4 w0 w b z0 z1 z2 z3) (v0 : Value) : X4 w0 (w.setCell ⟨b, 0, none⟩ v0) b v0 z1 z2 z3 := by
  have ne : ∀ i j : Nat, i ≠ j → (⟨b, i, none⟩ : Addr) ≠ ⟨b, j, none⟩ := fun i j h k => by injection k with _ k; exact h k
  exact ⟨World.cell?_setCell_same _ _ _ h.c0, (World.cell?_setCell_other _ _ _ _ (ne _ _ (by decide))).trans h.c1, (World.cell?_setCell_other _ _ _ _ (ne _ _ (by decide))).trans h.c2, (World.cell?_setCell_other _ _ _ _ (ne _ _ (by decide))).trans h.c3, fun o => by simpa using h.fz o, h.bl.setCell (p := ⟨b, 0, none⟩) h.ge _, h.ge⟩
/-- A block that another one is laid behind, or whose neighbour is changed. -/
theorem X4.off {w0 w : World} {b c : Nat} {v0 v1 v2 v3 : Value} (h : X4 w0 w b v0 v1 v2 v3) (i : Nat) (v : Value) (hc : c ≠ b) (hg : w0.heap.size ≤ c) : X4 w0 (w.setCell ⟨c, i, none⟩ v) b v0 v1 v2 v3 := by
  have ne : ∀ j : Nat, (⟨c, i, none⟩ : Addr) ≠ ⟨b, j, none⟩ := fun j k => by injection k with k; exact hc k
  exact ⟨(World.cell?_setCell_other _ _ _ _ (ne _)).trans h.c0, (World.cell?_setCell_other _ _ _ _ (ne _)).trans h.c1, (World.cell?_setCell_other _ _ _ _ (ne _)).trans h.c2, (World.cell?_setCell_other _ _ _ _ (ne _)).trans h.c3, fun o => by simpa using h.fz o, h.bl.setCell (p := ⟨c, i, none⟩) hg _, h.ge⟩

/-- What a call that reads a word answers. -/
def LgP (s : ByteArray) (a : Nat) (o : Option (Nat × Nat × Nat)) (e : Ending) : Prop :=
  match o with
  | some (k, n, v) => e = .returned (.tuple #[.agg #[.int .i64 (k : Nat), .string (s.extract a (a + n)), .int .i64 (v : Nat), .int .i64 (a : Nat)], .bool true])
  | none => ∃ k t n b, e = .returned (.tuple #[.agg #[.int .i64 k, .string t, .int .i64 n, .int .i64 b], .bool false])

theorem tl_drop (s : ByteArray) (a k : Nat) : (tl s a).drop k = tl s (a + k) := by unfold tl; rw [List.drop_drop]
theorem runD_dig (l : List UInt8) : ∀ n, n ≤ runD l → ∀ c ∈ l.take n, dgB c.toNat = true := by
  induction l with
  | nil => intro n h c hc; simp at hc
  | cons x l ih =>
    intro n h c hc
    unfold runD at h
    cases n with
    | zero => simp at hc
    | succ n =>
      split at h
      · rename_i hx
        simp only [List.take_succ_cons, List.mem_cons] at hc
        rcases hc with rfl | hc
        · exact hx
        · exact ih n (by omega) c hc
      · omega
theorem allD_ext {s : ByteArray} {a e : Nat} (h : e ≤ dEnd s a) : AllD (s.extract a e) := by
  unfold AllD
  rw [ext_data]
  exact runD_dig (tl s a) (e - a) (by unfold dEnd at h; omega)
theorem figN_ext (n : Nat) (s : ByteArray) (a e : Nat) : figN n (s.extract a e) = sat (fig n ((tl s a).take (e - a))) := by
  unfold figN
  have : tl (s.extract a e) 0 = (tl s a).take (e - a) := by show (s.extract a e).data.toList.drop 0 = _; rw [List.drop_zero, ext_data]; rfl
  rw [this]
theorem figN_le (n : Nat) (s : ByteArray) : figN n s ≤ 4503599627370497 := by unfold figN sat; omega
theorem figN_small {n : Nat} {s : ByteArray} {x m : Nat} (h : figN n s = sat x) (hm : m ≤ 4503599627370496) : (figN n s ≤ m ↔ x ≤ m) ∧ (x ≤ m → figN n s = x) := by
  rw [h]
  unfold sat
  omega
end Go.Proofs.YtobolipjgkabhaaDoor
