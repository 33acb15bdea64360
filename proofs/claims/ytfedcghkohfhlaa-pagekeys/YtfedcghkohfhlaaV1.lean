/- What stands in memory while a page is read. -/
import Derived.Test.YtfedcghkohfhlaaU1
import Derived.Test.YtfedcghkohfhlaaPb
namespace Go.Proofs.Ytfedcghkohfhlaa
open Go.RowKit
set_option linter.unusedVariables false
set_option linter.unusedSimpArgs false

theorem Rd.kept {w w' : World} {p q : Nat} {bad : Bool} {bs : List Int} (h : Rd w p q bad bs) (hp : w'.heap[p]? = w.heap[p]?) (hq : w'.heap[q]? = w.heap[q]?) : Rd w' p q bad bs := by
  obtain ⟨a, n, cap, c0, by0, hh⟩ := h.ex
  refine ⟨⟨a, n, cap, (World.cell?_of_block (w := w) (a := ⟨p, 0, none⟩) hp).trans c0, by0.kept (fun _ x hx => ?_), hh⟩, (World.cell?_of_block (w := w) (a := ⟨p, 1, none⟩) hp).trans h.bad, fun o => (World.frozen?_of_block (w := w) (a := ⟨p, o, none⟩) hp).trans (h.fz o), h.ne⟩
  rcases hh with rfl | ⟨o, rfl⟩
  · simp at hx
  · simp at hx; subst hx; exact hq
theorem frozen_kept {w w' : World} {b : Nat} (h : ∀ o, w.frozen? ⟨b, o, none⟩ = false) (e : w'.heap[b]? = w.heap[b]?) : ∀ o, w'.frozen? ⟨b, o, none⟩ = false :=
  fun o => (World.frozen?_of_block (w := w) (a := ⟨b, o, none⟩) e).trans (h o)
theorem Ow.kept {w w' : World} {T : TypeId} {base : Nat} {v : Value} {vs : List Value} (h : Ow w T base v vs) (hk : ∀ g, v.ownBlock = some g → w'.heap[g]? = w.heap[g]?) : Ow w' T base v vs := by
  refine ⟨⟨h.row.1, ?_⟩, h.one⟩
  rcases h.row.2 with hn | ⟨g, cap, cur, rfl, hbb, hgg, rest⟩
  · exact .inl hn
  · exact .inr ⟨g, cap, cur, rfl, hbb, by rw [hk g rfl]; exact hgg, rest⟩

/-- A page in the making at block pb, its rows above base; a Reader at rp; a place for the result at rr. -/
structure Dm (w0 : World) (base rr pb rp rq : Nat) (lf : Bool) (kk vv ii : Value) (ks vs : List ByteArray) (is : List Nat) (bad : Bool) (bs : List Int) (wr : World) : Prop where
  box : B4 wr pb (.bool lf) kk vv ii
  fz : ∀ o, wr.frozen? ⟨pb, o, none⟩ = false
  res : B4 wr rr (.bool false) (.slice none 0 0) (.slice none 0 0) (.slice none 0 0)
  rz : ∀ o, wr.frozen? ⟨rr, o, none⟩ = false
  ok : Ow wr 9 base kk (sv ks)
  ov : Ow wr 9 base vv (sv vs)
  oi : Ow wr 31 base ii (kv is)
  kv : ∀ g, kk.ownBlock = some g → vv.ownBlock ≠ some g
  ki : ∀ g, kk.ownBlock = some g → ii.ownBlock ≠ some g
  vi : ∀ g, vv.ownBlock = some g → ii.ownBlock ≠ some g
  rd : Rd wr rp rq bad bs
  low : (pb < base ∧ rr < base ∧ rp < base ∧ rq < base) ∧ (pb ≠ rp ∧ pb ≠ rq ∧ pb ≠ rr) ∧ rr ≠ rp
  bel : Below w0.heap.size w0 wr
  old : w0.heap.size ≤ pb ∧ w0.heap.size ≤ rr ∧ w0.heap.size ≤ rp ∧ w0.heap.size ≤ base
  bas : base ≤ wr.heap.size

section
variable {w0 : World} {base rr pb rp rq : Nat} {lf : Bool} {kk vv ii : Value} {ks vs : List ByteArray} {is : List Nat} {bad : Bool} {bs : List Int} {wr w2 w3 : World}
theorem Dm.below (h : Dm w0 base rr pb rp rq lf kk vv ii ks vs is bad bs wr) (b : Below wr.heap.size wr w2) : Dm w0 base rr pb rp rq lf kk vv ii ks vs is bad bs w2 :=
  ⟨h.box.below b, frozen_kept h.fz (b.block pb h.box.lt), h.res.below b, frozen_kept h.rz (b.block rr h.res.lt), h.ok.below b, h.ov.below b, h.oi.below b, h.kv, h.ki, h.vi, h.rd.below b, h.low, nextB h.bel b, h.old, Nat.le_trans h.bas b.size⟩
theorem Dm.drew (h : Dm w0 base rr pb rp rq lf kk vv ii ks vs is bad bs wr) : Dm w0 base rr pb rp rq lf kk vv ii ks vs is bad bs wr.drew := h.below (Below.refl _ _).drew
/-- The Reader has read. -/
theorem Dm.read (h : Dm w0 base rr pb rp rq lf kk vv ii ks vs is bad bs wr) {bad' : Bool} {bs' : List Int} (r : Rd w2 rp rq bad' bs') (g : wr.grownBy w2 (some rp)) : Dm w0 base rr pb rp rq lf kk vv ii ks vs is bad' bs' w2 := by
  obtain ⟨⟨l1, l2, l3, l4⟩, ⟨n1, n2, n3⟩, n4⟩ := h.low
  have e1 : w2.heap[pb]? = wr.heap[pb]? := g.block pb h.box.lt (fun e => n1 (Option.some.inj e))
  have e2 : w2.heap[rr]? = wr.heap[rr]? := g.block rr h.res.lt (fun e => n4 (Option.some.inj e))
  have e3 : ∀ v T vs, Ow wr T base v vs → Ow w2 T base v vs := fun v T vs o => o.grown g (fun x hx e => by have := (o.lt x hx).1; have := Option.some.inj e; omega)
  exact ⟨h.box.kept e1, frozen_kept h.fz e1, h.res.kept e2, frozen_kept h.rz e2, e3 _ _ _ h.ok, e3 _ _ _ h.ov, e3 _ _ _ h.oi, h.kv, h.ki, h.vi, r, h.low, h.bel.grown g h.bel.size (fun k hk => by have := Option.some.inj hk; have := h.old; omega), h.old, Nat.le_trans h.bas g.size⟩
/-- One of its rows has grown, its own cell not yet turned. -/
theorem Dm.row (h : Dm w0 base rr pb rp rq lf kk vv ii ks vs is bad bs wr) {x : Value} {T : TypeId} {xs : List Value} (ox : Ow wr T base x xs) (g : wr.grownBy w2 x.ownBlock) :
    B4 w2 pb (.bool lf) kk vv ii ∧ (∀ o, w2.frozen? ⟨pb, o, none⟩ = false) ∧ B4 w2 rr (.bool false) (.slice none 0 0) (.slice none 0 0) (.slice none 0 0) ∧ (∀ o, w2.frozen? ⟨rr, o, none⟩ = false) ∧ Rd w2 rp rq bad bs ∧ Below w0.heap.size w0 w2 ∧ base ≤ w2.heap.size := by
  obtain ⟨⟨l1, l2, l3, l4⟩, ⟨n1, n2, n3⟩, n4⟩ := h.low
  have ne : ∀ b, b < base → some b ≠ x.ownBlock := fun b hb e => by have := (ox.lt b e.symm).1; omega
  have e1 : w2.heap[pb]? = wr.heap[pb]? := g.block pb h.box.lt (ne pb l1)
  have e2 : w2.heap[rr]? = wr.heap[rr]? := g.block rr h.res.lt (ne rr l2)
  have e3 : w2.heap[rp]? = wr.heap[rp]? := g.block rp h.rd.lt (ne rp l3)
  have e4 : w2.heap[rq]? = wr.heap[rq]? := g.block rq (by have := h.bas; omega) (ne rq l4)
  exact ⟨h.box.kept e1, frozen_kept h.fz e1, h.res.kept e2, frozen_kept h.rz e2, h.rd.kept e3 e4, h.bel.grown g h.bel.size (fun k hk => by have := (ox.lt k hk).1; have := h.old; omega), Nat.le_trans h.bas g.size⟩
theorem set_heap {w : World} {b o c : Nat} {v : Value} (h : c ≠ b) : (w.setCell ⟨b, o, none⟩ v).heap[c]? = w.heap[c]? :=
  Below.heap_setCell w ⟨b, o, none⟩ v c h
theorem B4.set1 {w : World} {b : Nat} {c0 c1 c2 c3 v : Value} (h : B4 w b c0 c1 c2 c3) : B4 (w.setCell ⟨b, 1, none⟩ v) b c0 v c2 c3 := by
  have ne : ∀ i j : Nat, i ≠ j → (⟨b, i, none⟩ : Addr) ≠ ⟨b, j, none⟩ := fun i j h k => by injection k with _ k; exact h k
  exact ⟨(World.cell?_setCell_other _ _ _ _ (ne _ _ (by decide))).trans h.a0, World.cell?_setCell_same _ _ _ h.a1, (World.cell?_setCell_other _ _ _ _ (ne _ _ (by decide))).trans h.a2, (World.cell?_setCell_other _ _ _ _ (ne _ _ (by decide))).trans h.a3⟩
theorem B4.set2 {w : World} {b : Nat} {c0 c1 c2 c3 v : Value} (h : B4 w b c0 c1 c2 c3) : B4 (w.setCell ⟨b, 2, none⟩ v) b c0 c1 v c3 := by
  have ne : ∀ i j : Nat, i ≠ j → (⟨b, i, none⟩ : Addr) ≠ ⟨b, j, none⟩ := fun i j h k => by injection k with _ k; exact h k
  exact ⟨(World.cell?_setCell_other _ _ _ _ (ne _ _ (by decide))).trans h.a0, (World.cell?_setCell_other _ _ _ _ (ne _ _ (by decide))).trans h.a1, World.cell?_setCell_same _ _ _ h.a2, (World.cell?_setCell_other _ _ _ _ (ne _ _ (by decide))).trans h.a3⟩
theorem B4.set3 {w : World} {b : Nat} {c0 c1 c2 c3 v : Value} (h : B4 w b c0 c1 c2 c3) : B4 (w.setCell ⟨b, 3, none⟩ v) b c0 c1 c2 v := by
  have ne : ∀ i j : Nat, i ≠ j → (⟨b, i, none⟩ : Addr) ≠ ⟨b, j, none⟩ := fun i j h k => by injection k with _ k; exact h k
  exact ⟨(World.cell?_setCell_other _ _ _ _ (ne _ _ (by decide))).trans h.a0, (World.cell?_setCell_other _ _ _ _ (ne _ _ (by decide))).trans h.a1, (World.cell?_setCell_other _ _ _ _ (ne _ _ (by decide))).trans h.a2, World.cell?_setCell_same _ _ _ h.a3⟩
/-- A key more. -/
theorem Dm.key (h : Dm w0 base rr pb rp rq lf kk vv ii ks vs is bad bs wr) {k3 : Value} {s : ByteArray} (o3 : Ow w3 9 base k3 (sv ks ++ [.string s])) (g : wr.grownBy w3 kk.ownBlock) (l : Lies wr kk k3) :
    Dm w0 base rr pb rp rq lf k3 vv ii (ks ++ [s]) vs is bad bs (w3.setCell ⟨pb, 1, none⟩ k3) := by
  obtain ⟨x1, x2, x3, x4, x5, x6, x7⟩ := h.row h.ok g
  have lw := h.low
  obtain ⟨⟨l1, l2, l3, l4⟩, ⟨n1, n2, n3⟩, n4⟩ := h.low
  have st : ∀ c, c ≠ pb → (w3.setCell ⟨pb, 1, none⟩ k3).heap[c]? = w3.heap[c]? := fun c hc => set_heap hc
  have ow : ∀ v T vs, Ow w3 T base v vs → Ow (w3.setCell ⟨pb, 1, none⟩ k3) T base v vs := fun v T vs o => o.kept (fun g hg => st g (by have := (o.lt g hg).1; omega))
  have es : sv (ks ++ [s]) = sv ks ++ [.string s] := by rw [sv_app]; rfl
  refine ⟨x1.set1, fun o => by simpa using x2 o, x3.kept (st rr (Ne.symm n3)), fun o => by simpa using x4 o, ?_, ow _ _ _ (h.ov.grown g (fun y hy e => h.kv y e.symm hy)), ow _ _ _ (h.oi.grown g (fun y hy e => h.ki y e.symm hy)), ?_, ?_, h.vi, x5.kept (st rp (Ne.symm n1)) (st rq (Ne.symm n2)), lw, ?_, h.old, by simpa using x7⟩
  · rw [es]; exact ow _ _ _ o3
  · intro y hy e
    exact l.ne (h.ov.lt y e).2 (fun q => h.kv y q e) hy
  · intro y hy e
    exact l.ne (h.oi.lt y e).2 (fun q => h.ki y q e) hy
  · exact x6.setCell h.old.1 _
theorem Dm.val (h : Dm w0 base rr pb rp rq lf kk vv ii ks vs is bad bs wr) {k3 : Value} {s : ByteArray} (o3 : Ow w3 9 base k3 (sv vs ++ [.string s])) (g : wr.grownBy w3 vv.ownBlock) (l : Lies wr vv k3) :
    Dm w0 base rr pb rp rq lf kk k3 ii ks (vs ++ [s]) is bad bs (w3.setCell ⟨pb, 2, none⟩ k3) := by
  obtain ⟨x1, x2, x3, x4, x5, x6, x7⟩ := h.row h.ov g
  have lw := h.low
  obtain ⟨⟨l1, l2, l3, l4⟩, ⟨n1, n2, n3⟩, n4⟩ := h.low
  have st : ∀ c, c ≠ pb → (w3.setCell ⟨pb, 2, none⟩ k3).heap[c]? = w3.heap[c]? := fun c hc => set_heap hc
  have ow : ∀ v T vs, Ow w3 T base v vs → Ow (w3.setCell ⟨pb, 2, none⟩ k3) T base v vs := fun v T vs o => o.kept (fun g hg => st g (by have := (o.lt g hg).1; omega))
  have es : sv (vs ++ [s]) = sv vs ++ [.string s] := by rw [sv_app]; rfl
  refine ⟨x1.set2, fun o => by simpa using x2 o, x3.kept (st rr (Ne.symm n3)), fun o => by simpa using x4 o, ow _ _ _ (h.ok.grown g (fun y hy e => h.kv y hy e.symm)), ?_, ow _ _ _ (h.oi.grown g (fun y hy e => h.vi y e.symm hy)), ?_, h.ki, ?_, x5.kept (st rp (Ne.symm n1)) (st rq (Ne.symm n2)), lw, ?_, h.old, by simpa using x7⟩
  · rw [es]; exact ow _ _ _ o3
  · intro y hy e
    exact l.ne (h.ok.lt y hy).2 (fun q => h.kv y hy q) e
  · intro y hy e
    exact l.ne (h.oi.lt y e).2 (fun q => h.vi y q e) hy
  · exact x6.setCell h.old.1 _
theorem Dm.kid (h : Dm w0 base rr pb rp rq lf kk vv ii ks vs is bad bs wr) {k3 : Value} {s : Nat} (o3 : Ow w3 31 base k3 (Go.Proofs.Ytfedcghkohfhlaa.kv is ++ [.int .u64 (s : Nat)])) (g : wr.grownBy w3 ii.ownBlock) (l : Lies wr ii k3) :
    Dm w0 base rr pb rp rq lf kk vv k3 ks vs (is ++ [s]) bad bs (w3.setCell ⟨pb, 3, none⟩ k3) := by
  obtain ⟨x1, x2, x3, x4, x5, x6, x7⟩ := h.row h.oi g
  have lw := h.low
  obtain ⟨⟨l1, l2, l3, l4⟩, ⟨n1, n2, n3⟩, n4⟩ := h.low
  have st : ∀ c, c ≠ pb → (w3.setCell ⟨pb, 3, none⟩ k3).heap[c]? = w3.heap[c]? := fun c hc => set_heap hc
  have ow : ∀ v T vs, Ow w3 T base v vs → Ow (w3.setCell ⟨pb, 3, none⟩ k3) T base v vs := fun v T vs o => o.kept (fun g hg => st g (by have := (o.lt g hg).1; omega))
  have es : Go.Proofs.Ytfedcghkohfhlaa.kv (is ++ [s]) = Go.Proofs.Ytfedcghkohfhlaa.kv is ++ [.int .u64 (s : Nat)] := by rw [kv_app]; rfl
  refine ⟨x1.set3, fun o => by simpa using x2 o, x3.kept (st rr (Ne.symm n3)), fun o => by simpa using x4 o, ow _ _ _ (h.ok.grown g (fun y hy e => h.ki y hy e.symm)), ow _ _ _ (h.ov.grown g (fun y hy e => h.vi y hy e.symm)), ?_, h.kv, ?_, ?_, x5.kept (st rp (Ne.symm n1)) (st rq (Ne.symm n2)), lw, ?_, h.old, by simpa using x7⟩
  · rw [es]; exact ow _ _ _ o3
  · intro y hy e
    exact l.ne (h.ok.lt y hy).2 (fun q => h.ki y hy q) e
  · intro y hy e
    exact l.ne (h.ov.lt y hy).2 (fun q => h.vi y hy q) e
  · exact x6.setCell h.old.1 _
/-- A page read stays, whatever is laid into the place for the result. -/
theorem Pv.far {v : Value} {p : Pg} (q : Pv wr v p) (g : wr.grownBy w2 (some rr)) (h : Dm w0 base rr pb rp rq lf kk vv ii ks vs is bad bs wr) (hv : v = .agg #[.bool lf, kk, vv, ii]) : Pv w2 v p := by
  obtain ⟨ka, kn, kc, va, vn, vc, ia, im, ic, e, h1, h2, h3⟩ := q.ex
  rw [hv] at e
  simp only [Value.agg.injEq, Array.mk.injEq, List.cons.injEq, and_true] at e
  obtain ⟨_, rfl, rfl, rfl⟩ := e
  have lw := h.low.1
  refine ⟨⟨ka, kn, kc, va, vn, vc, ia, im, ic, by rw [hv]; simp_all, h1.grown g (fun p x hx e => ?_), h2.grown g (fun p x hx e => ?_), h3.grown g (fun p x hx e => ?_)⟩, q.kid⟩
  · have := (h.ok.lt x.block (by subst hx; rfl)).1; have := Option.some.inj e; omega
  · have := (h.ov.lt x.block (by subst hx; rfl)).1; have := Option.some.inj e; omega
  · have := (h.oi.lt x.block (by subst hx; rfl)).1; have := Option.some.inj e; omega
/-- The page that was read, as a value. -/
theorem Dm.page (h : Dm w0 base rr pb rp rq lf kk vv ii ks vs is bad bs wr) (hk : ∀ k ∈ is, k < 18446744073709551616) : Pv wr (.agg #[.bool lf, kk, vv, ii]) ⟨lf, ks, vs, is⟩ := by
  obtain ⟨a1, c1, rfl, s1, _, _⟩ := h.ok.sl
  obtain ⟨a2, c2, rfl, s2, _, _⟩ := h.ov.sl
  obtain ⟨a3, c3, rfl, s3, _, _⟩ := h.oi.sl
  exact Pv.mk' s1 s2 s3 hk
end

end Go.Proofs.Ytfedcghkohfhlaa
