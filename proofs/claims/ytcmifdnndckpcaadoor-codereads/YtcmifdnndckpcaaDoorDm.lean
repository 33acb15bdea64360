/- The walks over code's readers: a whole program; bytes held against bytes. -/
import Derived.Test.YtcmifdnndckpcaaDoorDl
namespace Go.Proofs.YtcmifdnndckpcaaDoor
open Go.RowKit
set_option linter.unusedVariables false
set_option linter.unusedSimpArgs false

theorem set5 {w : World} {r : Nat} {x0 x1 x2 x3 x4 : Value} (a b c d e : Value) (h0 : w.cell? ⟨r, 0, none⟩ = some x0) (h1 : w.cell? ⟨r, 1, none⟩ = some x1) (h2 : w.cell? ⟨r, 2, none⟩ = some x2) (h3 : w.cell? ⟨r, 3, none⟩ = some x3) (h4 : w.cell? ⟨r, 4, none⟩ = some x4) :
    (((((w.setCell ⟨r, 0, none⟩ a).setCell ⟨r, 1, none⟩ b).setCell ⟨r, 2, none⟩ c).setCell ⟨r, 3, none⟩ d).setCell ⟨r, 4, none⟩ e).cell? ⟨r, 0, none⟩ = some a ∧ (((((w.setCell ⟨r, 0, none⟩ a).setCell ⟨r, 1, none⟩ b).setCell ⟨r, 2, none⟩ c).setCell ⟨r, 3, none⟩ d).setCell ⟨r, 4, none⟩ e).cell? ⟨r, 1, none⟩ = some b ∧ (((((w.setCell ⟨r, 0, none⟩ a).setCell ⟨r, 1, none⟩ b).setCell ⟨r, 2, none⟩ c).setCell ⟨r, 3, none⟩ d).setCell ⟨r, 4, none⟩ e).cell? ⟨r, 2, none⟩ = some c ∧ (((((w.setCell ⟨r, 0, none⟩ a).setCell ⟨r, 1, none⟩ b).setCell ⟨r, 2, none⟩ c).setCell ⟨r, 3, none⟩ d).setCell ⟨r, 4, none⟩ e).cell? ⟨r, 3, none⟩ = some d ∧ (((((w.setCell ⟨r, 0, none⟩ a).setCell ⟨r, 1, none⟩ b).setCell ⟨r, 2, none⟩ c).setCell ⟨r, 3, none⟩ d).setCell ⟨r, 4, none⟩ e).cell? ⟨r, 4, none⟩ = some e := by
  have n : ∀ (W : World) (i j : Nat) (v : Value), i ≠ j → (W.setCell ⟨r, i, none⟩ v).cell? ⟨r, j, none⟩ = W.cell? ⟨r, j, none⟩ := fun W i j v h => by
    first | exact World.cell?_setCell_other _ _ _ _ (fun e => h (by injection e)) | exact World.cell?_setCell_other _ _ _ _ (fun e => h (by injection e with _ e; exact e.symm))
  obtain ⟨s0, s1, s2, s3⟩ := set4 a b c d h0 h1 h2 h3
  refine ⟨(n _ _ _ _ (by decide)).trans s0, (n _ _ _ _ (by decide)).trans s1, (n _ _ _ _ (by decide)).trans s2, (n _ _ _ _ (by decide)).trans s3, ?_⟩
  exact World.cell?_setCell_same _ _ _ ((n _ _ _ _ (by decide)).trans ((n _ _ _ _ (by decide)).trans ((n _ _ _ _ (by decide)).trans ((n _ _ _ _ (by decide)).trans h4))))
theorem set6 {w : World} {r : Nat} {x0 x1 x2 x3 x4 x5 : Value} (a b c d e f : Value) (h0 : w.cell? ⟨r, 0, none⟩ = some x0) (h1 : w.cell? ⟨r, 1, none⟩ = some x1) (h2 : w.cell? ⟨r, 2, none⟩ = some x2) (h3 : w.cell? ⟨r, 3, none⟩ = some x3) (h4 : w.cell? ⟨r, 4, none⟩ = some x4) (h5 : w.cell? ⟨r, 5, none⟩ = some x5) :
    ((((((w.setCell ⟨r, 0, none⟩ a).setCell ⟨r, 1, none⟩ b).setCell ⟨r, 2, none⟩ c).setCell ⟨r, 3, none⟩ d).setCell ⟨r, 4, none⟩ e).setCell ⟨r, 5, none⟩ f).cell? ⟨r, 0, none⟩ = some a ∧ ((((((w.setCell ⟨r, 0, none⟩ a).setCell ⟨r, 1, none⟩ b).setCell ⟨r, 2, none⟩ c).setCell ⟨r, 3, none⟩ d).setCell ⟨r, 4, none⟩ e).setCell ⟨r, 5, none⟩ f).cell? ⟨r, 1, none⟩ = some b ∧ ((((((w.setCell ⟨r, 0, none⟩ a).setCell ⟨r, 1, none⟩ b).setCell ⟨r, 2, none⟩ c).setCell ⟨r, 3, none⟩ d).setCell ⟨r, 4, none⟩ e).setCell ⟨r, 5, none⟩ f).cell? ⟨r, 2, none⟩ = some c ∧ ((((((w.setCell ⟨r, 0, none⟩ a).setCell ⟨r, 1, none⟩ b).setCell ⟨r, 2, none⟩ c).setCell ⟨r, 3, none⟩ d).setCell ⟨r, 4, none⟩ e).setCell ⟨r, 5, none⟩ f).cell? ⟨r, 3, none⟩ = some d ∧ ((((((w.setCell ⟨r, 0, none⟩ a).setCell ⟨r, 1, none⟩ b).setCell ⟨r, 2, none⟩ c).setCell ⟨r, 3, none⟩ d).setCell ⟨r, 4, none⟩ e).setCell ⟨r, 5, none⟩ f).cell? ⟨r, 4, none⟩ = some e ∧ ((((((w.setCell ⟨r, 0, none⟩ a).setCell ⟨r, 1, none⟩ b).setCell ⟨r, 2, none⟩ c).setCell ⟨r, 3, none⟩ d).setCell ⟨r, 4, none⟩ e).setCell ⟨r, 5, none⟩ f).cell? ⟨r, 5, none⟩ = some f := by
  have n : ∀ (W : World) (i j : Nat) (v : Value), i ≠ j → (W.setCell ⟨r, i, none⟩ v).cell? ⟨r, j, none⟩ = W.cell? ⟨r, j, none⟩ := fun W i j v h => by
    first | exact World.cell?_setCell_other _ _ _ _ (fun e => h (by injection e)) | exact World.cell?_setCell_other _ _ _ _ (fun e => h (by injection e with _ e; exact e.symm))
  obtain ⟨s0, s1, s2, s3, s4⟩ := set5 a b c d e h0 h1 h2 h3 h4
  refine ⟨(n _ _ _ _ (by decide)).trans s0, (n _ _ _ _ (by decide)).trans s1, (n _ _ _ _ (by decide)).trans s2, (n _ _ _ _ (by decide)).trans s3, (n _ _ _ _ (by decide)).trans s4, ?_⟩
  exact World.cell?_setCell_same _ _ _ ((n _ _ _ _ (by decide)).trans ((n _ _ _ _ (by decide)).trans ((n _ _ _ _ (by decide)).trans ((n _ _ _ _ (by decide)).trans ((n _ _ _ _ (by decide)).trans h5)))))
theorem set7 {w : World} {r : Nat} {x0 x1 x2 x3 x4 x5 x6 : Value} (a b c d e f g : Value) (h0 : w.cell? ⟨r, 0, none⟩ = some x0) (h1 : w.cell? ⟨r, 1, none⟩ = some x1) (h2 : w.cell? ⟨r, 2, none⟩ = some x2) (h3 : w.cell? ⟨r, 3, none⟩ = some x3) (h4 : w.cell? ⟨r, 4, none⟩ = some x4) (h5 : w.cell? ⟨r, 5, none⟩ = some x5) (h6 : w.cell? ⟨r, 6, none⟩ = some x6) :
    (((((((w.setCell ⟨r, 0, none⟩ a).setCell ⟨r, 1, none⟩ b).setCell ⟨r, 2, none⟩ c).setCell ⟨r, 3, none⟩ d).setCell ⟨r, 4, none⟩ e).setCell ⟨r, 5, none⟩ f).setCell ⟨r, 6, none⟩ g).cell? ⟨r, 0, none⟩ = some a ∧ (((((((w.setCell ⟨r, 0, none⟩ a).setCell ⟨r, 1, none⟩ b).setCell ⟨r, 2, none⟩ c).setCell ⟨r, 3, none⟩ d).setCell ⟨r, 4, none⟩ e).setCell ⟨r, 5, none⟩ f).setCell ⟨r, 6, none⟩ g).cell? ⟨r, 1, none⟩ = some b ∧ (((((((w.setCell ⟨r, 0, none⟩ a).setCell ⟨r, 1, none⟩ b).setCell ⟨r, 2, none⟩ c).setCell ⟨r, 3, none⟩ d).setCell ⟨r, 4, none⟩ e).setCell ⟨r, 5, none⟩ f).setCell ⟨r, 6, none⟩ g).cell? ⟨r, 2, none⟩ = some c ∧ (((((((w.setCell ⟨r, 0, none⟩ a).setCell ⟨r, 1, none⟩ b).setCell ⟨r, 2, none⟩ c).setCell ⟨r, 3, none⟩ d).setCell ⟨r, 4, none⟩ e).setCell ⟨r, 5, none⟩ f).setCell ⟨r, 6, none⟩ g).cell? ⟨r, 3, none⟩ = some d ∧ (((((((w.setCell ⟨r, 0, none⟩ a).setCell ⟨r, 1, none⟩ b).setCell ⟨r, 2, none⟩ c).setCell ⟨r, 3, none⟩ d).setCell ⟨r, 4, none⟩ e).setCell ⟨r, 5, none⟩ f).setCell ⟨r, 6, none⟩ g).cell? ⟨r, 4, none⟩ = some e ∧ (((((((w.setCell ⟨r, 0, none⟩ a).setCell ⟨r, 1, none⟩ b).setCell ⟨r, 2, none⟩ c).setCell ⟨r, 3, none⟩ d).setCell ⟨r, 4, none⟩ e).setCell ⟨r, 5, none⟩ f).setCell ⟨r, 6, none⟩ g).cell? ⟨r, 5, none⟩ = some f ∧ (((((((w.setCell ⟨r, 0, none⟩ a).setCell ⟨r, 1, none⟩ b).setCell ⟨r, 2, none⟩ c).setCell ⟨r, 3, none⟩ d).setCell ⟨r, 4, none⟩ e).setCell ⟨r, 5, none⟩ f).setCell ⟨r, 6, none⟩ g).cell? ⟨r, 6, none⟩ = some g := by
  have n : ∀ (W : World) (i j : Nat) (v : Value), i ≠ j → (W.setCell ⟨r, i, none⟩ v).cell? ⟨r, j, none⟩ = W.cell? ⟨r, j, none⟩ := fun W i j v h => by
    first | exact World.cell?_setCell_other _ _ _ _ (fun e => h (by injection e)) | exact World.cell?_setCell_other _ _ _ _ (fun e => h (by injection e with _ e; exact e.symm))
  obtain ⟨s0, s1, s2, s3, s4, s5⟩ := set6 a b c d e f h0 h1 h2 h3 h4 h5
  refine ⟨(n _ _ _ _ (by decide)).trans s0, (n _ _ _ _ (by decide)).trans s1, (n _ _ _ _ (by decide)).trans s2, (n _ _ _ _ (by decide)).trans s3, (n _ _ _ _ (by decide)).trans s4, (n _ _ _ _ (by decide)).trans s5, ?_⟩
  exact World.cell?_setCell_same _ _ _ ((n _ _ _ _ (by decide)).trans ((n _ _ _ _ (by decide)).trans ((n _ _ _ _ (by decide)).trans ((n _ _ _ _ (by decide)).trans ((n _ _ _ _ (by decide)).trans ((n _ _ _ _ (by decide)).trans h6))))))
theorem own_ge {w : World} {r : Nat} (h : r = w.heap.size) : ∀ k, some r = some k → w.heap.size ≤ k := by
  intro k e
  injection e with e
  omega
theorem grown7 (w : World) (r : Nat) (a b c d e f g : Value) : w.grownBy (((((((w.setCell ⟨r, 0, none⟩ a).setCell ⟨r, 1, none⟩ b).setCell ⟨r, 2, none⟩ c).setCell ⟨r, 3, none⟩ d).setCell ⟨r, 4, none⟩ e).setCell ⟨r, 5, none⟩ f).setCell ⟨r, 6, none⟩ g) (some r) :=
  grownBy_trans (grownBy_trans (grownBy_trans (grownBy_trans (grownBy_trans (grownBy_trans (grownBy_setCell _ r 0 _) (grownBy_setCell _ r 1 _)) (grownBy_setCell _ r 2 _)) (grownBy_setCell _ r 3 _)) (grownBy_setCell _ r 4 _)) (grownBy_setCell _ r 5 _)) (grownBy_setCell _ r 6 _)
theorem cP_rd1 {α β : Type} (c : Cod α) (d : Cod β) (s : Sr) : ((cP c d).rd s).1 = ((c.rd s).1, (d.rd (c.rd s).2).1) := rfl
theorem cP_rd2 {α β : Type} (c : Cod α) (d : Cod β) (s : Sr) : ((cP c d).rd s).2 = (d.rd (c.rd s).2).2 := rfl
theorem cProg_1 (s : Sr) : ((cProg false).rd s).1 = (((cL false cC).rd s).1, ((cL false (cT false)).rd ((cL false cC).rd s).2).1, ((cL false cI).rd ((cL false (cT false)).rd ((cL false cC).rd s).2).2).1, ((cL false cI).rd ((cL false cI).rd ((cL false (cT false)).rd ((cL false cC).rd s).2).2).2).1, ((cL false cI).rd ((cL false cI).rd ((cL false cI).rd ((cL false (cT false)).rd ((cL false cC).rd s).2).2).2).2).1, ((cL false cS).rd ((cL false cI).rd ((cL false cI).rd ((cL false cI).rd ((cL false (cT false)).rd ((cL false cC).rd s).2).2).2).2).2).1, ((cL false cN).rd ((cL false cS).rd ((cL false cI).rd ((cL false cI).rd ((cL false cI).rd ((cL false (cT false)).rd ((cL false cC).rd s).2).2).2).2).2).2).1) := by
  unfold cProg
  simp only [cP_rd1, cP_rd2]
theorem cProg_2 (s : Sr) : ((cProg false).rd s).2 = ((cL false cN).rd ((cL false cS).rd ((cL false cI).rd ((cL false cI).rd ((cL false cI).rd ((cL false (cT false)).rd ((cL false cC).rd s).2).2).2).2).2).2).2 := by
  unfold cProg
  simp only [cP_rd2]
theorem mem_en {α : Type} {c : Cod α} {xs : List α} {x : α} (h : x ∈ xs) : (c.en x).length ≤ (xs.map c.en).flatten.length := by
  induction xs with
  | nil => cases h
  | cons y ys ih =>
    simp only [List.map_cons, List.flatten_cons, List.length_append]
    rcases List.mem_cons.1 h with rfl | h
    · omega
    · have := ih h; omega
/-- The texts that are read are no longer than what is read. -/
theorem txt_len {s : Sr} (h : Bys s.1) (hn : s.1.length ≤ 15000000) : ∀ x ∈ ((cL false cS).rd s).1, Bys x ∧ x.length ≤ maxLen := by
  intro x hx
  have f := ((cL_good (q := false) cS_good).fine s h).1.1 x hx
  refine ⟨f.1, ?_⟩
  have z := (cL_good (q := false) cS_good).size s h
  have e : ((cL false cS).en ((cL false cS).rd s).1).length = (enc ((cL false cS).rd s).1.length).length + ((((cL false cS).rd s).1.map cS.en).flatten).length := by
    show (enc _ ++ _).length = _
    rw [List.length_append]
  have m := mem_en (c := cS) hx
  have l : (cS.en x).length = (enc x.length).length + x.length := by show (enc x.length ++ x).length = _; rw [List.length_append]
  have k : (if ((cL false cS).rd s).2.2 = true then (cL false cS).most else 0) ≤ 2 := by split <;> decide
  unfold maxLen
  omega
theorem str_inj {a b : List Int} (ha : Bys a) (hb : Bys b) (h : strOfNums a = strOfNums b) : a = b := by rw [← str_nums ha, ← str_nums hb, h]
theorem str_eq {a b : List Int} (ha : Bys a) (hb : Bys b) : ((strOfNums a).toList == (strOfNums b).toList) = decide (a = b) := by
  rw [Bool.eq_iff_iff, beq_iff_eq, decide_eq_true_iff]
  constructor
  · intro e
    rw [ByteArray.toList_eq, ByteArray.toList_eq] at e
    exact str_inj ha hb (ByteArray.ext (Array.toList_inj.1 e))
  · intro e; rw [e]
set_option maxRecDepth 100000 in
set_option maxHeartbeats 8000000 in
theorem bytesEqual_any (w : World) {a b : Option Addr} {n m c d : Nat} {xs ys : List Int} (h : By w a n c xs) (k : By w b m d ys) :
    Calls Tryd.prog 21 #[.slice a n c, .slice b m d] w fun e w' => e = .returned (.bool (decide (xs = ys))) ∧ w = w' := by
  have s1 := h.str
  have s2 := k.str
  have S := hid (str_eq h.ok k.ok)
  generalize decide (xs = ys) = D at *
  clear h k
  generalize strOfNums xs = s at *
  generalize strOfNums ys = t at *
  go_enter Tryd.func21, Tryd.ntmps21
  go_wp2_with fail
  go_ret
  exact ⟨by rw [← S.out]; rfl, rfl⟩

end Go.Proofs.YtcmifdnndckpcaaDoor
