/- What stands in memory while a page is split. -/
import Derived.Test.YtfedcghkohfhlaaY2
import Derived.Test.YtfedcghkohfhlaaX4
import Derived.Test.YtfedcghkohfhlaaV1
namespace Go.Proofs.Ytfedcghkohfhlaa
open Go.RowKit
set_option linter.unusedVariables false
set_option linter.unusedSimpArgs false

/-- A box and two places for results, while new memory is made. -/
structure Sp (w : World) (c0 c1 c2 c3 : Value) (W : World) : Prop where
  bel : Below w.heap.size w W
  box : B4 W w.heap.size c0 c1 c2 c3
  ra : B4 W (w.heap.size + 1) (.bool false) (.slice none 0 0) (.slice none 0 0) (.slice none 0 0)
  rb : B4 W (w.heap.size + 2) (.bool false) (.slice none 0 0) (.slice none 0 0) (.slice none 0 0)
  fa : ∀ o, W.frozen? ⟨w.heap.size + 1, o, none⟩ = false
  fb : ∀ o, W.frozen? ⟨w.heap.size + 2, o, none⟩ = false
theorem Sp.kept {w : World} {c0 c1 c2 c3 : Value} {W W' : World} (h : Sp w c0 c1 c2 c3 W) (b : Below w.heap.size w W') (e : ∀ k, k < w.heap.size + 3 → W'.heap[k]? = W.heap[k]?) : Sp w c0 c1 c2 c3 W' :=
  ⟨b, h.box.kept (e _ (by omega)), h.ra.kept (e _ (by omega)), h.rb.kept (e _ (by omega)), frozen_kept h.fa (e _ (by omega)), frozen_kept h.fb (e _ (by omega))⟩
theorem Sp.sz {w : World} {c0 c1 c2 c3 : Value} {W : World} (h : Sp w c0 c1 c2 c3 W) : w.heap.size + 3 ≤ W.heap.size := h.rb.lt
theorem Sp.next {w : World} {c0 c1 c2 c3 : Value} {W W' : World} (h : Sp w c0 c1 c2 c3 W) (b : Below W.heap.size W W') : Sp w c0 c1 c2 c3 W' :=
  h.kept (nextB h.bel b) (fun k hk => b.block k (by have := h.sz; omega))
theorem Sp.far {w : World} {c0 c1 c2 c3 : Value} {W W' : World} {r : Option Nat} (h : Sp w c0 c1 c2 c3 W) (g : W.grownBy W' r) (hr : ∀ k, r = some k → w.heap.size + 3 ≤ k) : Sp w c0 c1 c2 c3 W' :=
  h.kept (h.bel.grown g h.bel.size (fun k hk => by have := hr k hk; omega)) (fun k hk => g.block k (by have := h.sz; omega) (fun e => by have := hr k e.symm; omega))
theorem Sp.new (w : World) (c0 c1 c2 c3 : Value) (t t1 t2 : TypeId) : Sp w c0 c1 c2 c3 (((w.alloc (.cells #[c0, c1, c2, c3] t)).alloc (.cells #[.bool false, .slice none 0 0, .slice none 0 0, .slice none 0 0] t1)).alloc (.cells #[.bool false, .slice none 0 0, .slice none 0 0, .slice none 0 0] t2)) := by
  have b1 := allocB w (.cells #[c0, c1, c2, c3] t)
  have q1 := B4.new (w.alloc (.cells #[c0, c1, c2, c3] t)) (.bool false) (.slice none 0 0) (.slice none 0 0) (.slice none 0 0) t1
  rw [World.size_alloc] at q1
  have q2 := B4.new ((w.alloc (.cells #[c0, c1, c2, c3] t)).alloc (.cells #[.bool false, .slice none 0 0, .slice none 0 0, .slice none 0 0] t1)) (.bool false) (.slice none 0 0) (.slice none 0 0) (.slice none 0 0) t2
  rw [World.size_alloc, World.size_alloc] at q2
  have h1 := heap_alloc_new (w.alloc (.cells #[c0, c1, c2, c3] t)) (.cells #[.bool false, .slice none 0 0, .slice none 0 0, .slice none 0 0] t1)
  rw [World.size_alloc] at h1
  have h2 := heap_alloc_new ((w.alloc (.cells #[c0, c1, c2, c3] t)).alloc (.cells #[.bool false, .slice none 0 0, .slice none 0 0, .slice none 0 0] t1)) (.cells #[.bool false, .slice none 0 0, .slice none 0 0, .slice none 0 0] t2)
  rw [World.size_alloc, World.size_alloc] at h2
  exact ⟨nextB (nextB b1 (allocB _ _)) (allocB _ _), ((B4.new w _ _ _ _ t).below (allocB _ _)).below (allocB _ _), q1.below (allocB _ _), q2, frozen_kept (fun o => frozen_of_row _ _ _ _ _ h1) ((allocB _ _).block _ q1.lt), fun o => frozen_of_row _ _ _ _ _ h2⟩

/-- One cell of a slice is turned. -/
theorem Sl.put {w : World} {g o n c i : Nat} {vs : List Value} {u : Value} (h : Sl w (some ⟨g, o, none⟩) n c vs) (hi : i < n) (h1 : u.oneCell' = true) : Sl (w.setCell ⟨g, o + i, none⟩ u) (some ⟨g, o, none⟩) n c (vs.set i u) := by
  have hl := h.len
  refine ⟨by rw [List.length_set]; exact hl, h.fits, h.max, fun e => by simp at e, ⟨g, o, fun _ => rfl, fun j x hj => ?_⟩, fun x hx => ?_⟩
  · have jl := lt_of_some hj
    rw [List.length_set] at jl
    by_cases q : i = j
    · subst q
      rw [List.getElem?_set_self (by omega)] at hj
      rw [World.cell?_setCell_same _ _ _ (h.cells i _ (List.getElem?_eq_getElem jl))]
      exact hj
    · rw [List.getElem?_set_ne q] at hj
      have ne : (⟨g, o + i, none⟩ : Addr) ≠ ⟨g, o + j, none⟩ := fun k => by injection k with _ k; omega
      first | rw [World.cell?_setCell_other _ _ _ _ ne] | rw [World.cell?_setCell_other _ _ _ _ ne.symm]
      exact h.cells j x hj
  · rcases List.mem_or_eq_of_mem_set hx with q | q
    · exact h.one x q
    · subst q; exact h1
/-- Sizes so far, and noughts behind them. -/
def fil (l : List Nat) (k : Nat) : List Value := iv (l.take k) ++ List.replicate (l.length - k) (Value.int .i64 0)
theorem fil_set {l : List Nat} {k : Nat} (h : k < l.length) : (fil l k).set k (.int .i64 ((l.getD k 0 : Nat) : Int)) = fil l (k + 1) := by
  unfold fil
  have e : (iv (l.take k)).length = k := by rw [iv_len, List.length_take]; omega
  rw [List.set_append_right _ _ (by omega), e, Nat.sub_self, take_snoc h 0]
  rw [show l.length - k = (l.length - (k + 1)) + 1 by omega, List.replicate_succ]
  simp [iv]
theorem fil_all (l : List Nat) : fil l l.length = iv l := by unfold fil; simp
theorem fil_none (l : List Nat) : fil l 0 = List.replicate l.length (Value.int .i64 0) := by unfold fil; simp [iv]
theorem make_int (w : World) (n : Nat) (h : n ≤ 100000) : (Instr.makeSlice 83 (.int .i64 (n : Nat)) (.int .i64 (n : Nat))).run Try.prog w = .ok (.slice (some ⟨w.heap.size, 0, none⟩) n n) (w.alloc (.cells (List.replicate n (Value.int .i64 0)).toArray 3)) := by
  rw [run_make_row' 83 3 (.int .i64 0) 8 Try.underlying83 intInfo rfl .i64 .i64 n (by omega) (by omega) w, zcells 3]

/-- What stands while the sizes are laid. -/
structure SL (w : World) (c0 c1 c2 c3 : Value) (ka : Option Addr) (kn kc : Nat) (ks : List Value) (va : Option Addr) (vn vc : Nat) (vs : List Value) (sb : Nat) (l : List Value) (wr : World) : Prop where
  sp : Sp w c0 c1 c2 c3 wr
  key : Sl wr ka kn kc ks
  val : Sl wr va vn vc vs
  siz : Sl wr (some ⟨sb, 0, none⟩) kn kn l
  fz : ∀ o, wr.frozen? ⟨sb, o, none⟩ = false
  slt : sb < wr.heap.size
  sbb : w.heap.size + 3 ≤ sb
  kap : ∀ x, 0 < kn → ka = some x → x.block < w.heap.size
  vap : ∀ x, 0 < vn → va = some x → x.block < sb ∧ w.heap.size + 3 ≤ x.block
theorem SL.next {w : World} {c0 c1 c2 c3 : Value} {ka : Option Addr} {kn kc : Nat} {ks : List Value} {va : Option Addr} {vn vc : Nat} {vs : List Value} {sb : Nat} {l : List Value} {wr w2 : World} (h : SL w c0 c1 c2 c3 ka kn kc ks va vn vc vs sb l wr) (b : Below wr.heap.size wr w2) : SL w c0 c1 c2 c3 ka kn kc ks va vn vc vs sb l w2 :=
  ⟨h.sp.next b, h.key.below b, h.val.below b, h.siz.below b, frozen_kept h.fz (b.block sb h.slt), Nat.lt_of_lt_of_le h.slt b.size, h.sbb, h.kap, h.vap⟩
theorem SL.put {w : World} {c0 c1 c2 c3 : Value} {ka : Option Addr} {kn kc : Nat} {ks : List Value} {va : Option Addr} {vn vc : Nat} {vs : List Value} {sb : Nat} {l : List Value} {wr : World} (h : SL w c0 c1 c2 c3 ka kn kc ks va vn vc vs sb l wr) {i : Nat} {u : Value} (hi : i < kn) (h1 : u.oneCell' = true) : SL w c0 c1 c2 c3 ka kn kc ks va vn vc vs sb (l.set i u) (wr.setCell ⟨sb, i, none⟩ u) := by
  have g := grownBy_setCell wr sb i u
  have q := h.siz.put (i := i) (u := u) hi h1
  rw [Nat.zero_add] at q
  have hb := h.sbb
  refine ⟨h.sp.far g (fun k hk => by have := Option.some.inj hk; omega), h.key.grown g (fun p x hx e => by have := h.kap x p hx; have := Option.some.inj e; omega), h.val.grown g (fun p x hx e => by have := h.vap x p hx; have := Option.some.inj e; omega), q, fun o => by simpa using h.fz o, by simpa using h.slt, h.sbb, h.kap, h.vap⟩

end Go.Proofs.Ytfedcghkohfhlaa
