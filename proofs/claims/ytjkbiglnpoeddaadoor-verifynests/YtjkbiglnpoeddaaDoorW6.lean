/- The walks over package pack's Reader, on: a Reader in memory; U, I, S, Left, Bad. -/
import Derived.Test.YtjkbiglnpoeddaaDoorW5
namespace Go.Proofs.YtjkbiglnpoeddaaDoor
open Go.RowKit
set_option linter.unusedVariables false
set_option linter.unusedSimpArgs false

theorem grownBy_trans {a b c : World} {r : Option Nat} (h : a.grownBy b r) (k : b.grownBy c r) : a.grownBy c r :=
  ⟨k.os.trans h.os, k.tape.trans h.tape, k.output.trans h.output, Nat.le_trans h.size k.size, fun i hi hne => (k.block i (Nat.lt_of_lt_of_le hi h.size) hne).trans (h.block i hi hne)⟩
theorem grownBy_setCell (w : World) (p o : Nat) (v : Value) : w.grownBy (w.setCell ⟨p, o, none⟩ v) (some p) :=
  ⟨rfl, rfl, rfl, by simp, fun k _ hk => Below.heap_setCell w ⟨p, o, none⟩ v k (fun e => hk (by rw [e]))⟩

/-- A Reader in memory, at block p, its bytes in block q. -/
structure Rd (w : World) (p q : Nat) (bad : Bool) (bs : List Int) : Prop where
  ex : ∃ a n cap, w.cell? ⟨p, 0, none⟩ = some (.slice a n cap) ∧ By w a n cap bs ∧ (a = none ∨ ∃ o, a = some ⟨q, o, none⟩)
  bad : w.cell? ⟨p, 1, none⟩ = some (.bool bad)
  fz : ∀ o, w.frozen? ⟨p, o, none⟩ = false
  ne : p ≠ q
theorem Rd.lt {w : World} {p q : Nat} {bad : Bool} {bs : List Int} (h : Rd w p q bad bs) : p < w.heap.size := World.block_lt_of_cell? _ _ h.bad
theorem Rd.grown {w w' : World} {p q r : Nat} {bad : Bool} {bs : List Int} (h : Rd w p q bad bs) (hg : w.grownBy w' (some r)) (h1 : r ≠ p) (h2 : r ≠ q) : Rd w' p q bad bs := by
  have hb : w'.heap[p]? = w.heap[p]? := hg.block p h.lt (fun e => h1 (by simpa using e.symm))
  obtain ⟨a, n, cap, c0, by0, hh⟩ := h.ex
  refine ⟨⟨a, n, cap, ?_, ?_, hh⟩, ?_, fun o => ?_, h.ne⟩
  · rw [World.cell?_of_block (w := w) (a := ⟨p, 0, none⟩) hb]; exact c0
  · refine by0.grown hg (fun _ x hx => ?_)
    rcases hh with rfl | ⟨o, rfl⟩
    · simp at hx
    · simp at hx; subst hx; intro e; exact h2 (by simpa using e.symm)
  · rw [World.cell?_of_block (w := w) (a := ⟨p, 1, none⟩) hb]; exact h.bad
  · rw [World.frozen?_of_block (w := w) (a := ⟨p, o, none⟩) hb]; exact h.fz o
theorem Rd.below {w w' : World} {p q : Nat} {bad : Bool} {bs : List Int} (h : Rd w p q bad bs) (hbl : Below w.heap.size w w') : Rd w' p q bad bs := by
  have hb : w'.heap[p]? = w.heap[p]? := hbl.block p h.lt
  obtain ⟨a, n, cap, c0, by0, hh⟩ := h.ex
  refine ⟨⟨a, n, cap, ?_, by0.below hbl, hh⟩, ?_, fun o => ?_, h.ne⟩
  · rw [World.cell?_of_block (w := w) (a := ⟨p, 0, none⟩) hb]; exact c0
  · rw [World.cell?_of_block (w := w) (a := ⟨p, 1, none⟩) hb]; exact h.bad
  · rw [World.frozen?_of_block (w := w) (a := ⟨p, o, none⟩) hb]; exact h.fz o

/-- It is spoilt. -/
theorem Rd.spoilt {w : World} {p q : Nat} {bad : Bool} {bs : List Int} (h : Rd w p q bad bs) : Rd ((w.setCell ⟨p, 0, none⟩ (.slice none 0 0)).setCell ⟨p, 1, none⟩ (.bool true)) p q true [] := by
  obtain ⟨a, n, cap, c0, by0, hh⟩ := h.ex
  have n1 : (⟨p, 0, none⟩ : Addr) ≠ ⟨p, 1, none⟩ := fun k => by injection k with _ k; cases k
  have n2 : (⟨p, 1, none⟩ : Addr) ≠ ⟨p, 0, none⟩ := n1.symm
  refine ⟨⟨none, 0, 0, ?_, By.empty _, Or.inl rfl⟩, ?_, fun o => by simpa using h.fz o, h.ne⟩
  · first | (rw [World.cell?_setCell_other _ _ _ _ n1]; exact World.cell?_setCell_same _ _ _ c0) | (rw [World.cell?_setCell_other _ _ _ _ n2]; exact World.cell?_setCell_same _ _ _ c0)
  · have e : (w.setCell ⟨p, 0, none⟩ (.slice none 0 0)).cell? ⟨p, 1, none⟩ = some (.bool bad) := by first | exact (World.cell?_setCell_other _ _ _ _ n1).trans h.bad | exact (World.cell?_setCell_other _ _ _ _ n2).trans h.bad
    exact World.cell?_setCell_same _ _ _ e
/-- It reads on. -/
theorem Rd.on {w : World} {p q : Nat} {bad : Bool} {bs : List Int} (h : Rd w p q bad bs) {a' : Option Addr} {n' cap' : Nat} {bs' : List Int} (hb : By w a' n' cap' bs') (hh : a' = none ∨ ∃ o, a' = some ⟨q, o, none⟩) : Rd (w.setCell ⟨p, 0, none⟩ (.slice a' n' cap')) p q bad bs' := by
  obtain ⟨a, n, cap, c0, by0, _⟩ := h.ex
  have n1 : (⟨p, 0, none⟩ : Addr) ≠ ⟨p, 1, none⟩ := fun k => by injection k with _ k; cases k
  have n2 : (⟨p, 1, none⟩ : Addr) ≠ ⟨p, 0, none⟩ := n1.symm
  refine ⟨⟨a', n', cap', World.cell?_setCell_same _ _ _ c0, ?_, hh⟩, ?_, fun o => by simpa using h.fz o, h.ne⟩
  · refine hb.grown (grownBy_setCell w p 0 _) (fun _ x hx => ?_)
    rcases hh with rfl | ⟨o, rfl⟩
    · simp at hx
    · simp at hx; subst hx; intro e; exact h.ne (by simpa using e.symm)
  · first | exact (World.cell?_setCell_other _ _ _ _ n1).trans h.bad | exact (World.cell?_setCell_other _ _ _ _ n2).trans h.bad

/-- Bytes cut at their begin. -/
theorem By.drop {w : World} {b o n cap : Nat} {bs : List Int} (h : By w (some ⟨b, o, none⟩) n cap bs) {k : Nat} (hk : k ≤ n) {o' : Nat} (ho : k < n → o' = o + k) : By w (some ⟨b, o', none⟩) (n - k) (cap - k) (bs.drop k) := by
  obtain ⟨b', o0, h1, h2⟩ := h.cell
  have hl := h.len
  have hf := h.fits
  have hm := h.max
  refine ⟨by simp; omega, by omega, by omega, fun e => by simp at e, ⟨b, o', fun _ => rfl, fun i hi => ?_⟩, h.ok.drop k⟩
  have e := h1 (by omega)
  simp at e
  obtain ⟨rfl, rfl⟩ := e
  rw [ho (by omega), Nat.add_assoc, h2 (k + i) (by omega)]
  simp [List.getD]

/-- What cutting stores. -/
theorem Rd.cut {w : World} {p q : Nat} {bad : Bool} {bs : List Int} (h : Rd w p q bad bs) {o n cap : Nat} (hb : By w (some ⟨q, o, none⟩) n cap bs) {k : Nat} (hk : k ≤ n) :
    (cap = k → Rd (w.setCell ⟨p, 0, none⟩ (.slice (some ⟨q, o, none⟩) (n - k) 0)) p q bad (bs.drop k)) ∧ Rd (w.setCell ⟨p, 0, none⟩ (.slice (some ⟨q, o + k, none⟩) (n - k) (cap - k))) p q bad (bs.drop k) := by
  refine ⟨fun e => ?_, h.on (hb.drop hk (fun _ => rfl)) (Or.inr ⟨_, rfl⟩)⟩
  have hf := hb.fits
  have := h.on (hb.drop hk (o' := o) (fun _ => by omega)) (Or.inr ⟨_, rfl⟩)
  rw [show cap - k = 0 by omega] at this
  exact this

/-- Bytes cut at their end. -/
theorem By.take {w : World} {b o n cap : Nat} {bs : List Int} (h : By w (some ⟨b, o, none⟩) n cap bs) {k : Nat} (hk : k ≤ n) : By w (some ⟨b, o, none⟩) k cap (bs.take k) := by
  obtain ⟨b', o0, h1, h2⟩ := h.cell
  have hl := h.len
  have hf := h.fits
  refine ⟨by simp; omega, by omega, h.max, fun e => by simp at e, ⟨b, o, fun _ => rfl, fun i hi => ?_⟩, h.ok.take k⟩
  have e := h1 (by omega)
  simp at e
  obtain ⟨rfl, rfl⟩ := e
  rw [h2 i (by omega)]
  have : (bs.take k).getD i 0 = bs.getD i 0 := by simp [List.getD, hi]
  rw [this]
theorem retS {a b : ByteArray} (h : a = b) : Ending.returned (.string a) = .returned (.string b) := by rw [h]

end Go.Proofs.YtjkbiglnpoeddaaDoor
