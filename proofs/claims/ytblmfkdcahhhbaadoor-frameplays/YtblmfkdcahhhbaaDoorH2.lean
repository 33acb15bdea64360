/- The walk over package frame: an area's read. -/
import Derived.Test.YtblmfkdcahhhbaaDoorH1
namespace Go.Proofs.YtblmfkdcahhhbaaDoor
open Go.RowKit
set_option linter.unusedVariables false
set_option linter.unusedSimpArgs false

/-- Sectors that were read: a slice that owns a row of slices, each of a block of its own. -/
structure RdS (w0 W : World) (v : Value) (k : Nat) (f : Nat → List Int) : Prop where
  row : ∃ vs, W.ownsRow (w0.heap.size + 1) 32 1 v k vs ∧ ∀ j, j < k → ∃ g, vs[j]? = some (.slice (some ⟨g, 0, none⟩) 64 64) ∧ By W (some ⟨g, 0, none⟩) 64 64 (f j) ∧ g < W.heap.size ∧ v.ownBlock ≠ some g
  bel : Below w0.heap.size w0 W
  box : W.heap[w0.heap.size]? = some (.cells #[.int .u8 0, .int .u64 0, .int .u32 0, .slice none 0 0] 75)
theorem RdS.below {w0 W W' : World} {v : Value} {k : Nat} {f : Nat → List Int} (h : RdS w0 W v k f) (b : Below W.heap.size W W') : RdS w0 W' v k f := by
  obtain ⟨vs, hr, hy⟩ := h.row
  refine ⟨⟨vs, ownsBelow hr b, fun j hj => ?_⟩, nextB h.bel b, by rw [b.block _ (Array.getElem?_eq_some_iff.1 h.box).1]; exact h.box⟩
  obtain ⟨g, h1, h2, h3, h4⟩ := hy j hj
  exact ⟨g, h1, h2.below b, Nat.lt_of_lt_of_le h3 b.size, h4⟩
/-- One more is appended. -/
theorem RdS.next {w0 W x5 x6 : World} {v : Value} {k : Nat} {f : Nat → List Int} {vs : List Value} (h : RdS w0 W v k f) (hr : W.ownsRow (w0.heap.size + 1) 32 1 v k vs) (hy : ∀ j, j < k → ∃ g, vs[j]? = some (.slice (some ⟨g, 0, none⟩) 64 64) ∧ By W (some ⟨g, 0, none⟩) 64 64 (f j) ∧ g < W.heap.size ∧ v.ownBlock ≠ some g) (b : Below W.heap.size W x5) {gn : Nat} (yn : By x5 (some ⟨gn, 0, none⟩) 64 64 (f k)) (hgn : gn < x5.heap.size) (hgn2 : v.ownBlock ≠ some gn)
    {g6 cap6 : Nat} (o6 : x6.ownsRow (w0.heap.size + 1) 32 1 (.slice (some ⟨g6, 0, none⟩) (k + 1) cap6) (k + 1) (vs ++ [.slice (some ⟨gn, 0, none⟩) 64 64])) (gr : x5.grownBy x6 v.ownBlock) (hat : v.ownBlock = some g6 ∨ g6 = x5.heap.size) : RdS w0 x6 (.slice (some ⟨g6, 0, none⟩) (k + 1) cap6) (k + 1) f := by
  have hs := b.size
  have gs := gr.size
  have hbx := (Array.getElem?_eq_some_iff.1 h.box).1
  refine ⟨⟨_, o6, fun j hj => ?_⟩, ?_, ?_⟩
  · rcases Nat.lt_or_ge j k with q | q
    · obtain ⟨g, h1, h2, h3, h4⟩ := hy j q
      refine ⟨g, by rw [List.getElem?_append_left]; exact h1; exact (List.getElem?_eq_some_iff.1 h1).1, ?_, by omega, fun e => ?_⟩
      · exact h2.kept fun _ x hx => by simp at hx; subst hx; rw [gr.block g (by omega) (fun e => h4 e.symm), b.block g h3]
      · have e' : g6 = g := by simpa [Value.ownBlock] using e
        rcases hat with h | h
        · exact h4 (by rw [h, e'])
        · omega
    · obtain rfl : j = k := by omega
      have hvl : vs.length = j := by have := hr.1; omega
      refine ⟨gn, by rw [List.getElem?_append_right (by omega), hvl, Nat.sub_self]; rfl, ?_, by omega, fun e => ?_⟩
      · exact yn.kept fun _ x hx => by simp at hx; subst hx; exact gr.block gn hgn (fun e => hgn2 e.symm)
      · have e' : g6 = gn := by simpa [Value.ownBlock] using e
        rcases hat with h | h
        · exact hgn2 (by rw [h, e'])
        · omega
  · exact (h.bel.trans (b.mono h.bel.size)).grown gr (by have := h.bel.size; omega) (fun j hj => by have := (hr.lt j hj).1; omega)
  · rw [gr.block _ (by omega) (fun e => by have := (hr.lt _ e.symm).1; omega), b.block _ hbx]; exact h.box
theorem RdS.first {w0 W : World} {g : Nat} {f : Nat → List Int} (bel : Below w0.heap.size w0 W) (box : W.heap[w0.heap.size]? = some (.cells #[.int .u8 0, .int .u64 0, .int .u32 0, .slice none 0 0] 75)) (y : By W (some ⟨g, 0, none⟩) 64 64 (f 0)) (hg : g < W.heap.size) :
    RdS w0 (W.alloc (.cells #[.slice (some ⟨g, 0, none⟩) 64 64] 32)) (.slice (some ⟨W.heap.size, 0, none⟩) 1 1) 1 f := by
  have hb := (Array.getElem?_eq_some_iff.1 box).1
  refine ⟨⟨[.slice (some ⟨g, 0, none⟩) 64 64], ⟨rfl, .inr ⟨W.heap.size, 1, _, rfl, hb, heap_alloc_last W _, Nat.le_refl _, by decide, rfl, rfl⟩⟩, fun j hj => ?_⟩, nextB bel (allocB _ _), by rw [Below.heap_alloc _ _ _ hb]; exact box⟩
  obtain rfl : j = 0 := by omega
  exact ⟨g, rfl, y.below (allocB _ _), by simp; omega, fun e => by have : W.heap.size = g := by simpa [Value.ownBlock] using e
                                                                   omega⟩
theorem RdS.sl {w0 W : World} {v : Value} {k : Nat} {f : Nat → List Int} (h : RdS w0 W v k f) (hk : 0 < k) : ∃ b cap, v = .slice (some ⟨b, 0, none⟩) k cap ∧ Sl W b k cap f := by
  obtain ⟨vs, hr, hy⟩ := h.row
  have hr' := hr
  rcases hr.2 with ⟨-, rfl⟩ | ⟨g, cap, cur, rfl, hb, hg, hn, hm, hs, ht⟩
  · omega
  · refine ⟨g, cap, rfl, hn, hm, fun j hj => ?_⟩
    obtain ⟨g', h1, h2, -, -⟩ := hy j hj
    have e := hr'.cells (g := g) rfl j _ h1
    rw [Addr.add_mid, Nat.zero_add] at e
    exact ⟨g', e, h2⟩
/-- What an area's read answers. -/
structure RdP (w : World) (r : Option Fr) (e : Ending) (w' : World) : Prop where
  no : r = none → e = .returned (.tuple #[.agg #[.int .u8 0, .int .u64 0, .int .u32 0, .slice none 0 0], .int .i64 3])
  yes : ∀ f, r = some f → ∃ g c, e = .returned (.tuple #[.agg #[.int .u8 f.kind, .int .u64 (f.life : Nat), .int .u32 (f.num : Nat), .slice (some ⟨g, 0, none⟩) f.pay.length c], .int .i64 0]) ∧ By w' (some ⟨g, 0, none⟩) f.pay.length c f.pay ∧ w.heap.size ≤ g
  b : Below w.heap.size w w'
theorem toldOf_zero {h : List Int} (e : toldOf h = 0) : ¬ (h.getD 0 0 = 72 ∧ hN h ≤ 1000) := fun k => by
  unfold toldOf at e; rw [if_pos k] at e; have := fsize_pos (hN h); omega
theorem toldOf_pos {h : List Int} (e : toldOf h ≠ 0) : h.getD 0 0 = 72 ∧ hN h ≤ 1000 ∧ toldOf h = fsize (hN h) := by
  unfold toldOf at e ⊢
  by_cases k : h.getD 0 0 = 72 ∧ hN h ≤ 1000
  · rw [if_pos k]; exact ⟨k.1, k.2, rfl⟩
  · rw [if_neg k] at e; exact absurd rfl e
theorem rdB_none {sec : Nat → List Int} {i room : Nat} (h : ¬ stands sec i room) : rdB sec i room = none := if_neg h
theorem rdB_is {sec : Nat → List Int} {i room : Nat} (h : stands sec i room) : rdB sec i room = some ⟨(sec i).getD 1 0, hLife (sec i), hNum (sec i), payB sec i⟩ := if_pos h

end Go.Proofs.YtblmfkdcahhhbaaDoor
