/- Lists of things in memory, as they are read; what writing bytes leaves; drawn regions by hand. -/
import Derived.Test.YtjkbiglnpoeddaaDoorW7
import Derived.Test.YtjkbiglnpoeddaaDoorCa
import Derived.Lib.OthersKept
import Derived.Lib.BufferKept
import Derived.Deep.RegionHeld3
import Derived.BigQuiet
namespace Go.Proofs.YtjkbiglnpoeddaaDoor
open Go.RowKit
set_option linter.unusedVariables false
set_option linter.unusedSimpArgs false

theorem hid {p : Prop} (h : p) : Hid p := h
/-- What is held of the world may be said more strongly on the way. -/
theorem wpAnyH_strong {P : Program} {md : Region.Mode} {ops : Array Oper} {Q : Exit → Act → World → Prop} {S S' : World → Prop} (h : ∀ w, S' w → S w) : ∀ (fuel : Nat) (listed : Array Bool) (a : Act) (w : World), wpAnyH P md ops Q S' fuel listed a w → wpAnyH P md ops Q S fuel listed a w
  | 0, _, _, _, k => k
  | fuel + 1, _, _, _, k => ⟨k.1, fun i hi => wpOp_mono (fun a' w' h' => ⟨h _ h'.1, wpAnyH_strong h fuel _ a' w' h'.2⟩) (k.2 i hi)⟩
theorem take2 {P : Program} {md : Region.Mode} {ops : Array Oper} {Q : Exit → Act → World → Prop} {S : World → Prop} {l : List Oper} (hl : ops = l.toArray) {i : Nat} {oi : Oper} {v : Value} {d : Tmp} {fuel : Nat} {listed : Array Bool} {a : Act} {w : World} (hi : l[i]? = some oi) (hd : oi.dst = some d)
    (hs : Region.noSelect ops = true) (hf : Region.free md ops listed i = true) (hr : (Region.ready md ops listed).contains i = true)
    (hQ : ∀ c a w, Q (.panic c) (a.put oi.dst v) w → Q (.panic c) a w) (hy : YieldsIf P ops S oi v a) (hS : S w)
    (h : wpAnyH P md ops Q S fuel (listed.setIfInBounds i true) (a.put (some d) v) w) : wpAnyH P md ops Q S (fuel + 1) listed a w :=
  wpAnyH_take (by rw [hl]; simpa using hi) hs hf hr hQ hy hS (by rw [hd]; exact h)
theorem cons2 {P : Program} {md : Region.Mode} {ops : Array Oper} {Q : Exit → Act → World → Prop} {S : World → Prop} {l : List Oper} (hl : ops = l.toArray) {fuel : Nat} {listed : Array Bool} {a : Act} {w : World} {i : Nat} {o : Oper} (ho : l[i]? = some o)
    (h : ∀ K' : Act → World → Prop, Shut (∀ a w, S w → (S w → wpAnyH P md ops Q S fuel (listed.setIfInBounds i true) a w) → K' a w) → if Region.wanted o (yielded ops a.tmps) = true then Oper.wp P o a w K' Q else K' (a.put o.dst undef) w) :
    AllReadyH P md ops Q S fuel listed a w [i] := AllReadyH.cons (by rw [hl]; simpa using ho) h AllReadyH.nil
theorem cons22 {P : Program} {md : Region.Mode} {ops : Array Oper} {Q : Exit → Act → World → Prop} {S : World → Prop} {l : List Oper} (hl : ops = l.toArray) {fuel : Nat} {listed : Array Bool} {a : Act} {w : World} {i j : Nat} {o p : Oper} (ho : l[i]? = some o) (hp : l[j]? = some p)
    (h : ∀ K' : Act → World → Prop, Shut (∀ a w, S w → (S w → wpAnyH P md ops Q S fuel (listed.setIfInBounds i true) a w) → K' a w) → if Region.wanted o (yielded ops a.tmps) = true then Oper.wp P o a w K' Q else K' (a.put o.dst undef) w)
    (k : ∀ K' : Act → World → Prop, Shut (∀ a w, S w → (S w → wpAnyH P md ops Q S fuel (listed.setIfInBounds j true) a w) → K' a w) → if Region.wanted p (yielded ops a.tmps) = true then Oper.wp P p a w K' Q else K' (a.put p.dst undef) w) :
    AllReadyH P md ops Q S fuel listed a w [i, j] := AllReadyH.cons (by rw [hl]; simpa using ho) h (AllReadyH.cons (by rw [hl]; simpa using hp) k AllReadyH.nil)
/-- An operation of a drawn region that yields its value; one that is not wanted. -/
theorem tk {P : Program} {md : Region.Mode} {ops : Array Oper} {Q : Exit → Act → World → Prop} {S : World → Prop} {l : List Oper} {oi : Oper} {fuel : Nat} {listed : Array Bool} {a : Act} {w : World} (i : Nat) (v : Value) (d : Tmp) (hl : ops = l.toArray) (hi : l[i]? = some oi) (hd : oi.dst = some d)
    (hk : (Region.noSelect ops && Region.free md ops listed i && (Region.ready md ops listed).contains i) = true) (hQ : ∀ c a w, Q (.panic c) (a.put oi.dst v) w → Q (.panic c) a w) (hw : Region.wanted oi (yielded ops a.tmps) = true) (hS : S w) (hy : ∀ W, S W → (execOp a.eval oi).run P W = .ok (.value v) W)
    (h : wpAnyH P md ops Q S fuel (listed.setIfInBounds i true) (a.put (some d) v) w) : wpAnyH P md ops Q S (fuel + 1) listed a w := by
  simp only [Bool.and_eq_true] at hk
  exact take2 hl hi hd hk.1.1 hk.1.2 hk.2 hQ (Or.inl ⟨hw, hy⟩) hS h
theorem sk {P : Program} {md : Region.Mode} {ops : Array Oper} {Q : Exit → Act → World → Prop} {S : World → Prop} {l : List Oper} {oi : Oper} {fuel : Nat} {listed : Array Bool} {a : Act} {w : World} (i : Nat) (d : Tmp) (hl : ops = l.toArray) (hi : l[i]? = some oi) (hd : oi.dst = some d)
    (hk : (Region.noSelect ops && Region.free md ops listed i && (Region.ready md ops listed).contains i) = true) (hQ : ∀ c a w, Q (.panic c) (a.put oi.dst undef) w → Q (.panic c) a w) (hw : Region.wanted oi (yielded ops a.tmps) = false) (hS : S w)
    (h : wpAnyH P md ops Q S fuel (listed.setIfInBounds i true) (a.put (some d) undef) w) : wpAnyH P md ops Q S (fuel + 1) listed a w := by
  simp only [Bool.and_eq_true] at hk
  exact take2 hl hi hd hk.1.1 hk.1.2 hk.2 hQ (Or.inr ⟨hw, rfl⟩) hS h
theorem celB {w W : World} (h : Below w.heap.size w W) {a : Addr} {u : Value} (hc : w.cell? a = some u) : W.cell? a = some u := (World.cell?_of_block (h.block a.block (World.block_lt_of_cell? _ _ hc))).trans hc

/-- A list in memory, as it is read: each thing lies where A says. -/
structure Vw {α : Type} (A : World → Nat → Nat → α → Prop) (k : Nat) (w : World) (a : Option Addr) (m : Nat) (xs : List α) : Prop where
  len : xs.length = m
  at_ : ∃ g o : Nat, (0 < m → a = some ⟨g, o, none⟩) ∧ ∀ (i : Nat) (x : α), xs[i]? = some x → A w g (o + i * k) x
def Nx {α : Type} (A : World → Nat → Nat → α → Prop) : Prop := ∀ (w w' : World) (g p : Nat) (x : α), A w g p x → Below w.heap.size w w' → A w' g p x
theorem Vw.next {α : Type} {A : World → Nat → Nat → α → Prop} {k : Nat} {w w' : World} {a : Option Addr} {m : Nat} {xs : List α} (h : Vw A k w a m xs) (n : Nx A) (b : Below w.heap.size w w') : Vw A k w' a m xs := by
  obtain ⟨g, o, h1, h2⟩ := h.at_
  exact ⟨h.len, g, o, h1, fun i x hx => n _ _ _ _ _ (h2 i x hx) b⟩
theorem Vw.get {α : Type} {A : World → Nat → Nat → α → Prop} {k : Nat} {w : World} {a : Option Addr} {m : Nat} {xs : List α} (h : Vw A k w a m xs) {i : Nat} (hi : i < m) :
    ∃ g o x, a = some ⟨g, o, none⟩ ∧ xs[i]? = some x ∧ A w g (o + i * k) x ∧ xs.take (i + 1) = xs.take i ++ [x] := by
  obtain ⟨g, o, h1, h2⟩ := h.at_
  have hl : i < xs.length := by rw [h.len]; exact hi
  have hx : xs[i]? = some xs[i] := List.getElem?_eq_getElem hl
  exact ⟨g, o, xs[i], h1 (by omega), hx, h2 i _ hx, by rw [List.take_append_getElem]⟩
theorem Vw.empty {α : Type} (A : World → Nat → Nat → α → Prop) (k : Nat) (w : World) : Vw A k w none 0 [] := ⟨rfl, 0, 0, fun h => absurd h (Nat.lt_irrefl 0), fun i x h => by simp at h⟩

def cC : Cod (Int × Int) := cP cI cI
def cN : Cod (Int × Int × Int × Int) := cP cI (cP cI (cP cI cI))
def cT (q : Bool) : Cod (Int × Int × List Int × List Int) := cP cI (cP cI (cP (cL q cI) (cL q cI)))
theorem cC_good : cC.Good := cP_good cI_good cI_good
theorem cN_good : cN.Good := cP_good cI_good (cP_good cI_good (cP_good cI_good cI_good))
theorem cT_good (q : Bool) : (cT q).Good := cP_good cI_good (cP_good cI_good (cP_good (cL_good cI_good) (cL_good cI_good)))

/-- A number; a text; a constant; an instruction; a table. -/
def aI (w : World) (g p : Nat) (x : Int) : Prop := w.cell? ⟨g, p, none⟩ = some (.int .i64 x) ∧ cI.ok x
def aS (w : World) (g p : Nat) (x : List Int) : Prop := ∃ s : ByteArray, w.cell? ⟨g, p, none⟩ = some (.string s) ∧ nums s = x ∧ s.size ≤ maxLen
def aC (w : World) (g p : Nat) (x : Int × Int) : Prop := w.cell? ⟨g, p, none⟩ = some (.int .i64 x.1) ∧ w.cell? ⟨g, p + 1, none⟩ = some (.int .i64 x.2) ∧ (∃ a m c, w.cell? ⟨g, p + 2, none⟩ = some (.slice a m c)) ∧ cC.ok x
def aN (w : World) (g p : Nat) (x : Int × Int × Int × Int) : Prop := w.cell? ⟨g, p, none⟩ = some (.int .i64 x.1) ∧ w.cell? ⟨g, p + 1, none⟩ = some (.int .i64 x.2.1) ∧ w.cell? ⟨g, p + 2, none⟩ = some (.int .i64 x.2.2.1) ∧ w.cell? ⟨g, p + 3, none⟩ = some (.int .i64 x.2.2.2) ∧ cN.ok x
def aT (w : World) (g p : Nat) (x : Int × Int × List Int × List Int) : Prop := w.cell? ⟨g, p, none⟩ = some (.int .i64 x.1) ∧ w.cell? ⟨g, p + 1, none⟩ = some (.int .i64 x.2.1) ∧ cI.ok x.1 ∧ cI.ok x.2.1 ∧
  (∃ a c, w.cell? ⟨g, p + 2, none⟩ = some (.slice a x.2.2.1.length c) ∧ Vw aI 1 w a x.2.2.1.length x.2.2.1) ∧ (∃ a c, w.cell? ⟨g, p + 3, none⟩ = some (.slice a x.2.2.2.length c) ∧ Vw aI 1 w a x.2.2.2.length x.2.2.2)
theorem aI_nx : Nx aI := fun _ _ _ _ _ h b => ⟨celB b h.1, h.2⟩
theorem aS_nx : Nx aS := fun _ _ _ _ _ ⟨s, h⟩ b => ⟨s, celB b h.1, h.2⟩
theorem aC_nx : Nx aC := fun _ _ _ _ _ ⟨h1, h2, ⟨a, m, c, h3⟩, h4⟩ b => ⟨celB b h1, celB b h2, ⟨a, m, c, celB b h3⟩, h4⟩
theorem aN_nx : Nx aN := fun _ _ _ _ _ ⟨h1, h2, h3, h4, h5⟩ b => ⟨celB b h1, celB b h2, celB b h3, celB b h4, h5⟩
theorem aT_nx : Nx aT := fun _ _ _ _ _ ⟨h1, h2, o1, o2, ⟨a, c, h3, v3⟩, ⟨a', c', h4, v4⟩⟩ b => ⟨celB b h1, celB b h2, o1, o2, ⟨a, c, celB b h3, v3.next aI_nx b⟩, ⟨a', c', celB b h4, v4.next aI_nx b⟩⟩

/-- What writing bytes leaves: they, in memory of a call's own; nothing below it is changed, and nothing that is no row of bytes. -/
structure Wr (W0 w w' : World) (e : Ending) (bs : List Int) : Prop where
  ex : ∃ v, e = .returned v ∧ Own w' W0.heap.size v bs
  bl : Below W0.heap.size W0 w'
  ok : Lib.OthersKept 5 none w w'
theorem own_ok {w w' : World} {B : Nat} {v : Value} {bs : List Int} (h : Own w B v bs) (g : w.grownBy w' v.ownBlock) : Lib.OthersKept 5 none w w' :=
  (Lib.OthersKept.refl _ _ w).grown g fun k e => by
    rcases h.row.2 with ⟨h1, _⟩ | ⟨b, cap, cur, h1, _, h2, _⟩
    · rw [h1] at e; cases e
    · rw [h1] at e
      injection e with e
      subst e
      exact ⟨_, _, h2⟩
theorem own_bl {W0 w w' : World} {v : Value} {bs : List Int} (b : Below W0.heap.size W0 w) (h : Own w W0.heap.size v bs) (g : w.grownBy w' v.ownBlock) : Below W0.heap.size W0 w' :=
  b.grown g b.size (fun k hk => (h.row.lt k hk).1)
/-- A box of a call's own. -/
structure Bx (w : World) (p : Nat) (T : TypeId) (cs : Array Value) : Prop where
  at_ : w.heap[p]? = some (.cells cs T (0, 0))
  ty : T ≠ 5
theorem Bx.new (w : World) (cs : Array Value) (T : TypeId) (hT : T ≠ 5) : Bx (w.alloc (.cells cs T)) w.heap.size T cs := ⟨heap_alloc_new w _, hT⟩
theorem Bx.keep {w w' : World} {p : Nat} {T : TypeId} {cs : Array Value} (h : Bx w p T cs) (k : Lib.OthersKept 5 none w w') : Bx w' p T cs :=
  ⟨k p _ h.at_ (by simp) (fun c fz e => by injection e with _ e _; exact h.ty e), h.ty⟩
theorem Bx.next {w w' : World} {p : Nat} {T : TypeId} {cs : Array Value} (h : Bx w p T cs) (k : Below w.heap.size w w') : Bx w' p T cs :=
  ⟨by rw [k.block p (Array.getElem?_eq_some_iff.1 h.at_).1]; exact h.at_, h.ty⟩
theorem Bx.cell {w : World} {p : Nat} {T : TypeId} {cs : Array Value} (h : Bx w p T cs) (i : Nat) (u : Value) (hu : cs[i]? = some u) : w.cell? ⟨p, i, none⟩ = some u := by
  simp [World.cell?, h.at_, hu]
theorem Wr.parts {W0 w w' : World} {e : Ending} {bs : List Int} (h : Wr W0 w w' e bs) : ∃ v, e = .returned v ∧ Own w' W0.heap.size v bs ∧ Below W0.heap.size W0 w' ∧ Lib.OthersKept 5 none w w' := by
  obtain ⟨⟨v, e, o⟩, b, k⟩ := h
  exact ⟨v, e, o, b, k⟩

end Go.Proofs.YtjkbiglnpoeddaaDoor
