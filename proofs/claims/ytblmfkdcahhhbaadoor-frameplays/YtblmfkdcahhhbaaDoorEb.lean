/- A disk of a law's own; what a read leaves. -/
import Derived.Test.YtblmfkdcahhhbaaDoorEa
namespace Go.Proofs.YtblmfkdcahhhbaaDoor
open Go.RowKit
set_option linter.unusedVariables false
set_option linter.unusedSimpArgs false

theorem rem_odd (h : Int) : (h.tmod 2 != 0) = odd h := by
  unfold odd
  have e : h.tmod 2 = if 0 ≤ h then h % 2 else -((-h) % 2) := by
    split
    · exact Int.tmod_eq_emod_of_nonneg (by assumption)
    · have := Int.neg_tmod (-h) 2
      rw [Int.neg_neg] at this
      rw [this, Int.tmod_eq_emod_of_nonneg (by omega)]
  rw [e]
  rw [Bool.eq_iff_iff]
  simp only [bne_iff_ne, ne_eq, decide_eq_true_eq]
  split <;> omega
theorem rem_no {h : Int} (e : odd h = false) : h.tmod 2 = 0 := by
  have := rem_odd h
  rw [e] at this
  simpa using this

theorem St.eq {s t : St} (h1 : ∀ j, s.sec j = t.sec j) (h2 : s.on = t.on) (h3 : s.writes = t.writes) (h4 : s.lives = t.lives) (h5 : s.left = t.left) (h6 : s.late = t.late) : s = t := by
  cases s; cases t; simp at *; exact ⟨funext h1, h2, h3, h4, h5, h6⟩
/-- A disk of the law's own, nothing turned that was there before. -/
structure InvD (w0 : World) (p q n : Nat) (s : St) (wr : World) : Prop where
  d : Dk wr p q n s
  b : Below w0.heap.size w0 wr
  lp : w0.heap.size ≤ p
  lq : w0.heap.size ≤ q
theorem InvD.gr {w0 wr w1 : World} {p q n : Nat} {s s' : St} (h : InvD w0 p q n s wr) (d : Dk w1 p q n s') (g : Gr p q wr w1) : InvD w0 p q n s' w1 :=
  ⟨d, Below.gr h.b g h.b.size h.lp h.lq, h.lp, h.lq⟩
theorem InvD.below {w0 wr w1 : World} {p q n : Nat} {s : St} (h : InvD w0 p q n s wr) (g : Below wr.heap.size wr w1) : InvD w0 p q n s w1 :=
  ⟨h.d.below g, nextB h.b g, h.lp, h.lq⟩
theorem InvD.set {w0 wr : World} {p q n g o : Nat} {s : St} {v : Value} (h : InvD w0 p q n s wr) (h1 : p ≠ g) (h2 : q ≠ g) (h3 : w0.heap.size ≤ g) : InvD w0 p q n s (wr.setCell ⟨g, o, none⟩ v) :=
  ⟨h.d.kept (Below.heap_setCell _ _ _ _ h1) (Below.heap_setCell _ _ _ _ h2), h.b.setCell h3 _, h.lp, h.lq⟩
theorem InvD.new {w0 wr w1 : World} {p q n : Nat} {s : St} (h : Below w0.heap.size w0 wr) (d : Dk w1 p q n s) (b : Below wr.heap.size wr w1) (hp : wr.heap.size ≤ p) (hq : wr.heap.size ≤ q) : InvD w0 p q n s w1 :=
  ⟨d, nextB h b, Nat.le_trans h.size hp, Nat.le_trans h.size hq⟩
/-- Bytes that were there before lie in none of its blocks. -/
theorem InvD.apart {w0 wr : World} {p q n : Nat} {s : St} (h : InvD w0 p q n s wr) {a : Option Addr} {m c : Nat} {b : List Int} (y : By w0 a m c b) : 0 < m → ∀ x, a = some x → x.block ≠ p ∧ x.block ≠ q := fun hm x hx => by
  have := y.old hm x hx
  have := h.lp
  have := h.lq
  exact ⟨by omega, by omega⟩

/-- What a read leaves: new bytes of one's own. -/
theorem read_facts {w wr w2 : World} {p q n : Nat} {s : St} {l : List Int} (T : InvD w p q n s wr) (hw : wr.alloc (.cells (vals l).toArray 5) = w2) (hl : l.length = 64 ∧ Bys l) :
    InvD w p q n s w2 ∧ By w2 (some ⟨wr.heap.size, 0, none⟩) 64 64 l ∧ w2.frozen? ⟨wr.heap.size, 0, none⟩ = false ∧ w2.heap.size = wr.heap.size + 1 := by
  subst hw
  have y := by_const wr l hl.2 (by omega) (0, 0) 5
  rw [hl.1] at y
  exact ⟨T.below (allocB _ _), y, frozen_of_row _ _ _ _ _ (heap_alloc_last wr _), by simp⟩

end Go.Proofs.YtblmfkdcahhhbaaDoor
