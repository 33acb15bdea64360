/- For package frame's encode: what lies in memory on its way. -/
import Derived.Test.YtblmfkdcahhhbaaDoorG7
import Derived.Deep.AppendLies
import Derived.Deep.RegionLaw
namespace Go.Proofs.YtblmfkdcahhhbaaDoor
open Go.RowKit Go.Shelf
set_option linter.unusedVariables false
set_option linter.unusedSimpArgs false
attribute [local go_sem] Oper.semAt_some

/-- encode under way: the content's box, the head so far. -/
structure EncH (w wr : World) (C : Array Value) (v : Value) (bs : List Int) : Prop where
  bel : Below w.heap.size w wr
  box : wr.heap[w.heap.size]? = some (.cells C 75)
  own : Own wr (w.heap.size + 1) v bs
theorem EncH.lt {w wr : World} {C : Array Value} {v : Value} {bs : List Int} (h : EncH w wr C v bs) : w.heap.size + 1 ≤ wr.heap.size := (Array.getElem?_eq_some_iff.1 h.box).1
theorem EncH.next {w wr w1 : World} {C : Array Value} {v v' : Value} {bs bs' : List Int} (h : EncH w wr C v bs) (o : Own w1 (w.heap.size + 1) v' bs') (b : Below (w.heap.size + 1) wr w1) : EncH w w1 C v' bs' :=
  ⟨h.bel.trans (b.mono (by omega)), by rw [b.block _ (by omega)]; exact h.box, o⟩
theorem EncH.below {w wr w1 : World} {C : Array Value} {v : Value} {bs : List Int} (h : EncH w wr C v bs) (b : Below wr.heap.size wr w1) : EncH w w1 C v bs :=
  h.next (h.own.below b) (b.mono h.lt)
theorem own2 (w : World) (x y : Int) (hx : 0 ≤ x ∧ x < 256) (hy : 0 ≤ y ∧ y < 256) : Own (w.alloc (.cells #[.int .u8 x, .int .u8 y] 5)) w.heap.size (.slice (some ⟨w.heap.size, 0, none⟩) 2 2) [x, y] :=
  ⟨⟨rfl, .inr ⟨w.heap.size, 2, _, rfl, Nat.le_refl _, heap_alloc_last w _, Nat.le_refl _, by decide, rfl, rfl⟩⟩, Bys.mk hx.1 hx.2 (Bys.mk hy.1 hy.2 Bys.nil)⟩

theorem by0 (w : World) {A : Option Addr} {C : Nat} (hm : C ≤ maxLen) (hn : A = none → C = 0) : By w A 0 C [] :=
  ⟨rfl, Nat.zero_le _, hm, hn, ⟨0, 0, fun p => absurd p (Nat.lt_irrefl 0), fun i hi => absurd hi (Nat.not_lt_zero i)⟩, Bys.nil⟩
/-- The first of bytes in memory. -/
theorem By.cutTo {w : World} {a : Option Addr} {n cap k : Nat} {bs : List Int} (h : By w a n cap bs) (hk : k ≤ n) : By w a k cap (bs.take k) := by
  obtain ⟨b, o, h1, h2⟩ := h.cell
  refine ⟨by rw [List.length_take, h.len]; omega, by have := h.fits; omega, h.max, h.nil, ⟨b, o, fun p => h1 (by omega), fun i hi => ?_⟩, h.ok.take k⟩
  rw [h2 i (by omega)]
  simp [List.getD, hi]

theorem boxBelow {W W' : World} {B : Nat} {t : TypeId} {v : Value} (h : Boxed W B t v) (b : Below W.heap.size W W') : Boxed W' B t v := (b.block _ h.lt).trans h
theorem ownsBelow {w w' : World} {base : Nat} {e : TypeId} {size : Nat} {v : Value} {n : Nat} {xs : List Value} (h : w.ownsRow base e size v n xs) (b : Below w.heap.size w w') : w'.ownsRow base e size v n xs := by
  refine ⟨h.1, ?_⟩
  rcases h.2 with hn | ⟨g, cap, cur, rfl, hb, hg, rest⟩
  · exact .inl hn
  · exact .inr ⟨g, cap, cur, rfl, hb, by rw [b.block g (Array.getElem?_eq_some_iff.1 hg).1]; exact hg, rest⟩
theorem owns_lt {w : World} {base : Nat} {e : TypeId} {size : Nat} {v : Value} {n : Nat} {xs : List Value} (h : w.ownsRow base e size v n xs) {g : Nat} (hg : v.ownBlock = some g) : g < w.heap.size ∧ ∃ cur, w.heap[g]? = some (.cells cur e (0, 0)) := by
  rcases h.2 with ⟨rfl, _⟩ | ⟨g', cap, cur, rfl, hb, hg', rest⟩
  · simp [Value.ownBlock] at hg
  · simp [Value.ownBlock] at hg; subst hg; exact ⟨(Array.getElem?_eq_some_iff.1 hg').1, cur, hg'⟩
/-- The turn of a block that is no cells leaves bytes. -/
theorem by_turn {X Y : World} {row : Option Nat} {a : Option Addr} {m c : Nat} {bs : List Int} (h : By X a m c bs) (hg : X.grownBy Y row) (hrow : ∀ r, row = some r → ∃ o : Obj, X.heap[r]? = some o ∧ o.isCells = false) : By Y a m c bs := by
  obtain ⟨b, o, h1, h2⟩ := h.cell
  refine ⟨h.len, h.fits, h.max, h.nil, ⟨b, o, h1, fun i hi => ?_⟩, h.ok⟩
  exact cell_kept (h2 i hi) hg hrow
/-- The sectors that are made so far: the box holds a slice that owns a row of slices, all in new memory; the row lies in none of two blocks. -/
structure EncS (w0 W : World) (Bx p1 p2 k : Nat) (f : Nat → List Int) : Prop where
  row : ∃ v vs, Boxed W Bx 57 v ∧ W.ownsRow w0.heap.size 32 1 v k vs ∧ (∀ j, j < k → ∃ a m c, vs[j]? = some (.slice a m c) ∧ By W a m c (f j) ∧ (∀ x, a = some x → w0.heap.size ≤ x.block ∧ x.block < W.heap.size ∧ v.ownBlock ≠ some x.block ∧ x.block ≠ Bx)) ∧ (∀ g, v.ownBlock = some g → g ≠ p1 ∧ g ≠ p2)
  bel : Below w0.heap.size w0 W
  lo : w0.heap.size ≤ Bx
theorem EncS.kept {w0 W W' : World} {Bx p1 p2 k : Nat} {f : Nat → List Int} (h : EncS w0 W Bx p1 p2 k f) (b : Below W.heap.size W W') : EncS w0 W' Bx p1 p2 k f := by
  obtain ⟨v, vs, hv, hr, hy, hp⟩ := h.row
  refine ⟨⟨v, vs, boxBelow hv b, ownsBelow hr b, fun j hj => ?_, hp⟩, nextB h.bel b, h.lo⟩
  obtain ⟨a, m, c, h1, h2, h3⟩ := hy j hj
  exact ⟨a, m, c, h1, h2.below b, fun x hx => ⟨(h3 x hx).1, Nat.lt_of_lt_of_le (h3 x hx).2.1 b.size, (h3 x hx).2.2⟩⟩
theorem EncS.avoid {w0 W : World} {Bx p1 p2 k : Nat} {f : Nat → List Int} (h : EncS w0 W Bx p1 p2 k f) (q1 q2 : Nat) (h1 : W.heap.size ≤ q1) (h2 : W.heap.size ≤ q2) : EncS w0 W Bx q1 q2 k f := by
  obtain ⟨v, vs, hv, hr, hy, hp⟩ := h.row
  exact ⟨⟨v, vs, hv, hr, hy, fun g hg => by have := (owns_lt hr hg).1; exact ⟨by omega, by omega⟩⟩, h.bel, h.lo⟩
theorem EncS.first {w0 w7 : World} {a : Option Addr} {c : Nat} {x : List Int} (hb : Below w0.heap.size w0 w7) (y : By w7 a x.length c x) (hn : ∀ z, a = some z → w0.heap.size ≤ z.block ∧ z.block < w7.heap.size) :
    EncS w0 ((w7.alloc (.cells #[.slice a x.length c] 32)).alloc (.cells #[.slice (some ⟨w7.heap.size, 0, none⟩) 1 1] 57)) (w7.heap.size + 1) (w7.heap.size + 1) (w7.heap.size + 1) 1 (fun _ => x) := by
  have hs := hb.size
  have bx := Boxed.new (w7.alloc (.cells #[.slice a x.length c] 32)) 57 (.slice (some ⟨w7.heap.size, 0, none⟩) 1 1)
  rw [World.size_alloc] at bx
  have bb : Below w7.heap.size w7 ((w7.alloc (.cells #[.slice a x.length c] 32)).alloc (.cells #[.slice (some ⟨w7.heap.size, 0, none⟩) 1 1] 57)) := (allocB w7 _).alloc (by simp) _
  refine ⟨⟨_, [.slice a x.length c], bx, ⟨rfl, .inr ⟨w7.heap.size, 1, #[.slice a x.length c], rfl, hs, ?_, Nat.le_refl _, by decide, rfl, rfl⟩⟩, fun j hj => ?_, fun g hg => ?_⟩, hb.trans (bb.mono hs), by omega⟩
  · rw [Below.heap_alloc _ _ _ (by simp)]; exact heap_alloc_last w7 _
  · obtain rfl : j = 0 := by omega
    refine ⟨a, x.length, c, rfl, y.below bb, fun z hz => ⟨(hn z hz).1, ?_, ?_, ?_⟩⟩
    · have := (hn z hz).2; simp; omega
    · have := (hn z hz).2
      intro e
      have : w7.heap.size = z.block := by simpa [Value.ownBlock] using e
      omega
    · have := (hn z hz).2; omega
  · have : w7.heap.size = g := by simpa [Value.ownBlock] using hg
    exact ⟨by omega, by omega⟩
theorem keepsBelow {W W' : World} (b : Below W.heap.size W W') : KeepsOthers W W' := ⟨b.size, fun k o hk _ => (b.block k (Array.getElem?_eq_some_iff.1 hk).1).trans hk⟩
/-- One more sector is appended and stored. -/
theorem EncS.next {w0 W x5 x6 : World} {Bx p1 p2 k : Nat} {f : Nat → List Int} {v : Value} {vs : List Value} (E : EncS w0 W Bx p1 p2 k f) (hv : Boxed W Bx 57 v) (hr : W.ownsRow w0.heap.size 32 1 v k vs)
    (hy : ∀ j, j < k → ∃ a m c, vs[j]? = some (.slice a m c) ∧ By W a m c (f j) ∧ (∀ x, a = some x → w0.heap.size ≤ x.block ∧ x.block < W.heap.size ∧ v.ownBlock ≠ some x.block ∧ x.block ≠ Bx)) (hp : ∀ g, v.ownBlock = some g → g ≠ p1 ∧ g ≠ p2)
    (b : Below W.heap.size W x5) {a4 : Option Addr} {l4 c4 : Nat} {s : List Int} (y4 : By x5 a4 l4 c4 s) (s4 : ∀ z, a4 = some z → W.heap.size ≤ z.block ∧ z.block < x5.heap.size)
    {g6 cap6 : Nat} (o6 : x6.ownsRow w0.heap.size 32 1 (.slice (some ⟨g6, 0, none⟩) (k + 1) cap6) (k + 1) (vs ++ [.slice a4 l4 c4])) (gr : x5.grownBy x6 v.ownBlock) (hat : v.ownBlock = some g6 ∨ g6 = x5.heap.size) (hb1 : p1 < W.heap.size) (hb2 : p2 < W.heap.size) (n1 : p1 ≠ Bx) (n2 : p2 ≠ Bx) :
    Boxed x6 Bx 57 v ∧ EncS w0 (x6.setCell ⟨Bx, 0, none⟩ (.slice (some ⟨g6, 0, none⟩) (k + 1) cap6)) Bx p1 p2 (k + 1) (fun j => if j = k then s else f j) ∧ Keep2 p1 p2 W (x6.setCell ⟨Bx, 0, none⟩ (.slice (some ⟨g6, 0, none⟩) (k + 1) cap6)) ∧ KeepsOthers W (x6.setCell ⟨Bx, 0, none⟩ (.slice (some ⟨g6, 0, none⟩) (k + 1) cap6)) := by
  have hs := b.size
  have hBx := hv.lt
  have gs := gr.size
  have nrow : some Bx ≠ v.ownBlock := hv.not_row (by decide) hr
  have hv5 : Boxed x5 Bx 57 v := boxBelow hv b
  have hv6 : Boxed x6 Bx 57 v := hv5.kept gr nrow
  have g6n : g6 ≠ Bx := by
    rcases hat with e | e
    · exact fun h => nrow (by rw [e, h])
    · omega
  have blk : ∀ q, q < W.heap.size → v.ownBlock ≠ some q → q ≠ Bx → (x6.setCell ⟨Bx, 0, none⟩ (.slice (some ⟨g6, 0, none⟩) (k + 1) cap6)).heap[q]? = W.heap[q]? := fun q hq h1 h2 => by
    rw [Below.heap_setCell _ _ _ _ h2, gr.block q (by omega) (fun e => h1 e.symm), b.block q hq]
  refine ⟨hv6, ⟨⟨_, vs ++ [.slice a4 l4 c4], hv6.set _, ?_, fun j hj => ?_, fun g hg => ?_⟩, ?_, E.lo⟩, ⟨?_, ?_⟩, ?_⟩
  · exact o6.kept (grownBy_setCell' x6 Bx _) (Or.inr fun e => g6n (by simpa [Value.ownBlock] using e))
  · rcases Nat.lt_or_ge j k with q | q
    · obtain ⟨a, m, c, h1, h2, h3⟩ := hy j q
      refine ⟨a, m, c, by rw [List.getElem?_append_left]; exact h1; exact (List.getElem?_eq_some_iff.1 h1).1, ?_, fun x hx => ⟨(h3 x hx).1, ?_, ?_, (h3 x hx).2.2.2⟩⟩
      · rw [if_neg (by omega)]
        exact h2.kept fun _ x hx => blk _ (h3 x hx).2.1 (h3 x hx).2.2.1 (h3 x hx).2.2.2
      · have := (h3 x hx).2.1; simp; omega
      · have hl := (h3 x hx).2.1
        intro e
        have e' : g6 = x.block := by simpa [Value.ownBlock] using e
        rcases hat with h | h
        · exact (h3 x hx).2.2.1 (by rw [h, e'])
        · omega
    · obtain rfl : j = k := by omega
      have hvl : vs.length = j := by have := hr.1; omega
      refine ⟨a4, l4, c4, by rw [List.getElem?_append_right (by omega), hvl, Nat.sub_self]; rfl, ?_, fun x hx => ⟨?_, ?_, ?_, ?_⟩⟩
      · rw [if_pos rfl]
        refine y4.kept fun _ x hx => ?_
        have h4 := s4 x hx
        have hne : x.block ≠ Bx := by omega
        rw [Below.heap_setCell _ _ _ _ hne, gr.block _ h4.2 (fun e => by have := (owns_lt hr e.symm).1; omega)]
      · have := (s4 x hx).1; have := E.bel.size; omega
      · have := (s4 x hx).2; simp; omega
      · intro e
        have e' : g6 = x.block := by simpa [Value.ownBlock] using e
        have h4 := s4 x hx
        rcases hat with h | h
        · have := (owns_lt hr h).1; omega
        · omega
      · have := (s4 x hx).1; omega
  · have e' : g6 = g := by simpa [Value.ownBlock] using hg
    rcases hat with h | h
    · rw [← e']; exact hp g6 h
    · exact ⟨by omega, by omega⟩
  · refine ((E.bel.trans (b.mono E.bel.size)).grown gr (by have := E.bel.size; omega) (fun j hj => (hr.lt j hj).1)).setCell (p := ⟨Bx, 0, none⟩) E.lo _
  · exact blk p1 hb1 (fun e => (hp p1 e).1 rfl) n1
  · exact blk p2 hb2 (fun e => (hp p2 e).2 rfl) n2
  · refine ((keepsBelow b).trans (KeepsOthers.of_grownBy gr fun j o ej hj => ?_)).trans (KeepsOthers.setCell _ _ _)
    obtain ⟨_, cur, hc⟩ := owns_lt (ownsBelow hr b) ej
    rw [hc] at hj; cases hj; rfl
/-- What it says speaks of cells alone. -/
theorem EncS.own {β : Type} {w0 : World} {B Bx p1 p2 : Nat} {k : β → Nat} {f : β → Nat → List Int} (hB : w0.heap.size ≤ B) : OwnFrom B (fun s W => EncS w0 W Bx p1 p2 (k s) (f s)) := by
  intro s X Y row h hg hrow
  have nc : ∀ q cs t fz, X.heap[q]? = some (Obj.cells cs t fz) → Y.heap[q]? = X.heap[q]? := fun q cs t fz hq => by
    refine hg.block q (Array.getElem?_eq_some_iff.1 hq).1 fun e => ?_
    obtain ⟨_, o, ho, hc⟩ := hrow q e.symm
    rw [hq] at ho; cases ho; cases hc
  obtain ⟨v, vs, hv, hr, hy, hp⟩ := h.row
  refine ⟨⟨v, vs, ?_, ⟨hr.1, ?_⟩, fun j hj => ?_, hp⟩, ?_, h.lo⟩
  · exact (nc _ _ _ _ hv).trans hv
  · rcases hr.2 with hn | ⟨g, cap, cur, rfl, hb, hgg, rest⟩
    · exact .inl hn
    · exact .inr ⟨g, cap, cur, rfl, hb, by rw [nc _ _ _ _ hgg]; exact hgg, rest⟩
  · obtain ⟨a, m, c, h1, h2, h3⟩ := hy j hj
    refine ⟨a, m, c, h1, by_turn h2 hg (fun r e => (hrow r e).2), fun x hx => ⟨(h3 x hx).1, Nat.lt_of_lt_of_le (h3 x hx).2.1 hg.size, (h3 x hx).2.2⟩⟩
  · exact h.bel.grown hg (Nat.le_trans (Nat.le_refl _) h.bel.size) (fun q e => Nat.le_trans hB (hrow q e).1)
/-- Sectors made by encode: in new memory. -/
structure SlE (w0 w : World) (b n cap : Nat) (f : Nat → List Int) : Prop where
  fits : n ≤ cap
  max : cap ≤ maxLen
  at_ : ∀ j, j < n → ∃ a m c, w.cell? ⟨b, j, none⟩ = some (.slice a m c) ∧ By w a m c (f j) ∧ (∀ x, a = some x → w0.heap.size ≤ x.block)
  lo : w0.heap.size ≤ b
  lt : b < w.heap.size
  bel : Below w0.heap.size w0 w
theorem EncS.done {w0 W : World} {Bx p1 p2 k : Nat} {f : Nat → List Int} (h : EncS w0 W Bx p1 p2 k f) (hk : 0 < k) : ∃ b cap, Boxed W Bx 57 (.slice (some ⟨b, 0, none⟩) k cap) ∧ SlE w0 W b k cap f := by
  obtain ⟨v, vs, hv, hr, hy, hp⟩ := h.row
  have hr' := hr
  rcases hr.2 with ⟨-, rfl⟩ | ⟨g, cap, cur, rfl, hb, hg, hn, hm, hs, ht⟩
  · omega
  · refine ⟨g, cap, hv, hn, hm, fun j hj => ?_, hb, (Array.getElem?_eq_some_iff.1 hg).1, h.bel⟩
    obtain ⟨a, m, c, h1, h2, h3⟩ := hy j hj
    refine ⟨a, m, c, ?_, h2, fun x hx => (h3 x hx).1⟩
    have e := hr'.cells (g := g) rfl j _ h1
    rw [Addr.add_mid, Nat.zero_add] at e
    exact e
theorem EncS.congr {w0 W : World} {Bx p1 p2 k : Nat} {f g : Nat → List Int} (h : EncS w0 W Bx p1 p2 k f) (e : ∀ j, j < k → f j = g j) : EncS w0 W Bx p1 p2 k g := by
  obtain ⟨v, vs, hv, hr, hy, hp⟩ := h.row
  exact ⟨⟨v, vs, hv, hr, fun j hj => by rw [← e j hj]; exact hy j hj, hp⟩, h.bel, h.lo⟩
/-- The turn of a new block that is no cells leaves them. -/
theorem SlE.turn {w0 X Y : World} {b n cap r : Nat} {f : Nat → List Int} (h : SlE w0 X b n cap f) (hg : X.grownBy Y (some r)) (hr : ∃ o : Obj, X.heap[r]? = some o ∧ o.isCells = false) (hlo : w0.heap.size ≤ r) : SlE w0 Y b n cap f := by
  have hrow : ∀ q, some r = some q → ∃ o : Obj, X.heap[q]? = some o ∧ o.isCells = false := fun q e => by cases e; exact hr
  refine ⟨h.fits, h.max, fun j hj => ?_, h.lo, Nat.lt_of_lt_of_le h.lt hg.size, h.bel.grown hg h.bel.size (fun q e => by cases e; exact hlo)⟩
  obtain ⟨a, m, c, h1, h2, h3⟩ := h.at_ j hj
  exact ⟨a, m, c, cell_kept h1 hg hrow, by_turn h2 hg hrow, h3⟩
/-- All is laid for the loop over the payload's chunks. -/
structure ChF (w0 W : World) (Bx Bs Bn L : Nat) (A : Option Addr) (C b o : Nat) (tl : List Int) (f : Nat → List Int) : Prop where
  cs : W.cell? ⟨Bs, 0, none⟩ = some (.slice A L C)
  cn : W.cell? ⟨Bn, 0, none⟩ = some (.int .i64 63)
  y : By W A L C tl
  ha : 0 < L → A = some ⟨b, o, none⟩
  e : EncS w0 W Bx Bs Bn 1 f
  n1 : Bs ≠ Bx
  n2 : Bn ≠ Bx
  lo : 0 < L → b < w0.heap.size
theorem ChF.mk2 {w0 w8 : World} {Bx L C b o p1 p2 : Nat} {A : Option Addr} {tl : List Int} {f : Nat → List Int} (e : EncS w0 w8 Bx p1 p2 1 f) (y : By w8 A L C tl) (ha : 0 < L → A = some ⟨b, o, none⟩) (lo : 0 < L → b < w0.heap.size) :
    ChF w0 ((w8.alloc (.cells #[.slice A L C] 32)).alloc (.cells #[.int .i64 63] 3)) Bx w8.heap.size (w8.heap.size + 1) L A C b o tl f := by
  obtain ⟨v, vs, hv, -, -⟩ := e.row
  have hlt := hv.lt
  have bb : Below w8.heap.size w8 ((w8.alloc (.cells #[.slice A L C] 32)).alloc (.cells #[.int .i64 63] 3)) := (allocB w8 _).alloc (by simp) _
  have b1 := Boxed.new w8 32 (.slice A L C)
  have b2 := Boxed.new (w8.alloc (.cells #[.slice A L C] 32)) 3 (.int .i64 63)
  rw [World.size_alloc] at b2
  exact ⟨(b1.alloc _).cell, b2.cell, y.below bb, ha, (e.avoid w8.heap.size (w8.heap.size + 1) (Nat.le_refl _) (by omega)).kept bb, by omega, by omega, lo⟩
theorem By.trim {w : World} {a : Option Addr} {n cap : Nat} {bs : List Int} (h : By w a n cap bs) : By w a n n bs :=
  ⟨h.len, Nat.le_refl _, by have := h.fits; have := h.max; omega, fun e => by have := h.nil e; have := h.fits; omega, h.cell, h.ok⟩
/-- The sectors when so many chunks have come. -/
def fpre (F0 tl : List Int) {L : Nat} (pre : List (Ch L)) : Nat → List Int
  | 0 => F0
  | j + 1 => match pre[j]? with
    | some x => 67 :: (tl.drop (63 * x.1)).take 63
    | none => []
theorem fpre_next {F0 tl : List Int} {L : Nat} {pre : List (Ch L)} (x : Ch L) : (fun j => if j = 1 + pre.length then 67 :: (tl.drop (63 * x.1)).take 63 else fpre F0 tl pre j) = fpre F0 tl (pre ++ [x]) := by
  funext j
  by_cases h : j = 1 + pre.length
  · subst h
    rw [if_pos rfl, Nat.add_comm, fpre, List.getElem?_append_right (Nat.le_refl _), Nat.sub_self]; rfl
  · rw [if_neg h]
    cases j with
    | zero => rfl
    | succ j =>
      rw [fpre, fpre]
      rcases Nat.lt_or_ge j pre.length with q | q
      · rw [List.getElem?_append_left q]
      · rw [List.getElem?_eq_none (by omega), List.getElem?_eq_none (by simp; omega)]
theorem firsts_get {L : Nat} : ∀ {k j : Nat} (hk : k ≤ chs L) (h : j < k), (firsts L k)[j]? = some ⟨j, Nat.lt_of_lt_of_le h hk⟩
  | k + 1, j, hk, h => by
    rw [firsts_succ (by omega)]
    rcases Nat.lt_or_ge j k with q | q
    · rw [List.getElem?_append_left (by rw [firsts_len (by omega)]; exact q)]; exact firsts_get (by omega) q
    · obtain rfl : j = k := by omega
      rw [List.getElem?_append_right (by rw [firsts_len (by omega)]; exact Nat.le_refl _), firsts_len (by omega), Nat.sub_self]; rfl
theorem chs_fsize {m N L : Nat} (hN : N = min m 44) (hL : L = m - N) : 1 + chs L = fsize m := by unfold chs fsize; omega
theorem fpre_all {kd : Int} {life num m N L : Nat} {pay : List Int} (hN : N = min m 44) (hL : L = m - N) {j : Nat} (h : j < fsize m) : fpre (fsec kd life num pay 0) (pay.drop N) (firsts L (chs L)) j = fsec kd life num pay j := by
  cases j with
  | zero => rfl
  | succ j =>
    have hj : j < chs L := by have := chs_fsize hN hL; omega
    rw [fpre, firsts_get (Nat.le_refl _) hj]
    show 67 :: List.take 63 (List.drop (63 * j) (List.drop N pay)) = _
    rw [List.drop_drop, fsec]
    have : N = 44 := by unfold chs at hj; omega
    rw [this]
theorem ssInfo : (Tryd.prog.info? 32).map (fun i => (i.zero, i.size, i.bytes)) = some (some (.slice none 0 0), 1, 24) := by kernel_rfl
theorem cons22 {P : Program} {md : Region.Mode} {ops : Array Oper} {Q : Exit → Act → World → Prop} {S : World → Prop} {l : List Oper} (hl : ops = l.toArray) {fuel : Nat} {listed : Array Bool} {a : Act} {w : World} {i j : Nat} {o p : Oper} (ho : l[i]? = some o) (hp : l[j]? = some p)
    (h : ∀ K' : Act → World → Prop, Shut (∀ a w, S w → (S w → wpAnyH P md ops Q S fuel (listed.setIfInBounds i true) a w) → K' a w) → if Region.wanted o (yielded ops a.tmps) = true then Oper.wp P o a w K' Q else K' (a.put o.dst undef) w)
    (k : ∀ K' : Act → World → Prop, Shut (∀ a w, S w → (S w → wpAnyH P md ops Q S fuel (listed.setIfInBounds j true) a w) → K' a w) → if Region.wanted p (yielded ops a.tmps) = true then Oper.wp P p a w K' Q else K' (a.put p.dst undef) w) :
    AllReadyH P md ops Q S fuel listed a w [i, j] := AllReadyH.cons (by rw [hl]; simpa using ho) h (AllReadyH.cons (by rw [hl]; simpa using hp) k AllReadyH.nil)

end Go.Proofs.YtblmfkdcahhhbaaDoor
