/- What publicanref14's Decode reads, plainly; its state in memory. -/
import Derived.Test.YtcmifdnndckpcaaDoorEd
import Derived.Test.YtcmifdnndckpcaaDoorDt
namespace Go.Proofs.YtcmifdnndckpcaaDoor
open Go.RowKit
set_option linter.unusedVariables false
set_option linter.unusedSimpArgs false

def rdQ (bs : List Int) : PP × Sr := (cProg true).rd (mid bs, false)
/-- What the reference's Decode answers. -/
def refP (bs : List Int) : Option PP := if 8 ≤ bs.length ∧ bs.take 4 = fisc ∧ (rdQ bs).2.2 = false ∧ (rdQ bs).2.1 = [] ∧ bytesOf (rdQ bs).1 = bs then some (rdQ bs).1 else none
theorem rdQ_ok {bs : List Int} (h : Bys bs) : (cProg false).ok (rdQ bs).1 := ((cProg_good true).fine (mid bs, false) (bys_mid h)).1
theorem rdQ_bytes {p : PP} (h : (cProg false).ok p) : rdQ (bytesOf p) = (p, ([], false)) := by
  unfold rdQ
  rw [mid_bytes]
  have := (cProg_good true).back p [] h
  rw [List.append_nil] at this
  exact this
/-- The reference's Decode reads what the program's reads. -/
theorem refP_decP {bs : List Int} (h : Bys bs) : refP bs = decP bs := by
  by_cases c : 8 ≤ bs.length ∧ bs.take 4 = fisc ∧ (rdQ bs).2.2 = false ∧ (rdQ bs).2.1 = [] ∧ bytesOf (rdQ bs).1 = bs
  · have e1 : refP bs = some (rdQ bs).1 := by unfold refP; rw [if_pos c]
    have e2 := (decP_back (rdQ_ok h)).1
    rw [c.2.2.2.2] at e2
    rw [e1, e2]
  · have e1 : refP bs = none := by unfold refP; rw [if_neg c]
    rw [e1]
    symm
    refine (decP_no (fun k => c ?_)).1
    have e := rdQ_bytes (rdP_ok h)
    rw [k.2] at e
    refine ⟨k.1, ?_, by rw [e], by rw [e], by rw [e]; exact k.2⟩
    rw [← k.2]
    unfold bytesOf
    rw [List.append_assoc]
    rfl
theorem rdQ_len {bs : List Int} (h : Bys bs) (hn : bs.length ≤ 700000) : (bodyOf (rdQ bs).1).length ≤ 8000000 := by
  have z := (cProg_good true).size (mid bs, false) (bys_mid h)
  have l := mid_len bs
  have m : (if ((cProg true).rd (mid bs, false)).2.2 = true then (cProg true).most else 0) ≤ 100 := by split <;> decide
  have e : ((cProg true).en ((cProg true).rd (mid bs, false)).1).length = (bodyOf (rdQ bs).1).length := rfl
  rw [e] at z
  simp only at z
  omega
theorem rd_new7 {w w1 : World} {a : Option Addr} {cap : Nat} {bs : List Int} (T : TypeId) (h0 : 0 < w.heap.size) (hb : By w1 a bs.length cap bs) (hs : ∀ x, a = some x → w.heap.size ≤ x.block ∧ x.block < w1.heap.size) (hh : a = none ∨ ∃ g, a = some ⟨g, 0, none⟩) (bl : Below w.heap.size w w1) :
    ∃ q, Rd (w1.alloc (.cells #[.slice a bs.length cap, .bool false] T)) w1.heap.size q false bs ∧ q < w1.heap.size := by
  have hw := bl.size
  have B := hb.below (allocB w1 (.cells #[.slice a bs.length cap, .bool false] T))
  rcases hh with rfl | ⟨g, rfl⟩
  · exact ⟨0, ⟨⟨_, _, _, by simp, B, Or.inl rfl⟩, by simp, fun o => by simp, by omega⟩, by omega⟩
  · have := (hs _ rfl).2
    exact ⟨g, ⟨⟨_, _, _, by simp, B, Or.inr ⟨0, rfl⟩⟩, by simp, fun o => by simp, by simp at this; omega⟩, by simpa using this⟩

theorem QT.two {w w' : World} {B C m : Nat} {v u : Value} {xs : List (Int × Int × List Int × List Int)} {β : Type} {U : TypeId} {g : β → List Value} {ys : List β} (h : QT w B v xs) (n : Qf U m g w C u ys) (h1 : 59 ≠ U) (h2 : 2 ≠ U) (g5 : w.grownBy w' u.ownBlock) : QT w' B v xs := by
  obtain ⟨R, e, r, k⟩ := h.ex
  exact ⟨R, e, own_two r n h1 g5, fun x hx => ⟨own_two (k x hx).1 n h2 g5, own_two (k x hx).2 n h2 g5⟩⟩
/-- A program's rows, as far as they are read. -/
structure Fd (w : World) (B : Nat) (u0 u1 u2 u3 u4 u5 u6 : Value) (x : PP) : Prop where
  r0 : Qf 62 3 fC w B u0 x.1
  r1 : QT w B u1 x.2.1
  r2 : Qf 56 1 fI w B u2 x.2.2.1
  r3 : Qf 56 1 fI w B u3 x.2.2.2.1
  r4 : Qf 56 1 fI w B u4 x.2.2.2.2.1
  r5 : Qf 9 1 fS w B u5 x.2.2.2.2.2.1
  r6 : Qf 36 4 fN w B u6 x.2.2.2.2.2.2
theorem Fd.next {w w' : World} {B : Nat} {u0 u1 u2 u3 u4 u5 u6 : Value} {x : PP} (h : Fd w B u0 u1 u2 u3 u4 u5 u6 x) (b : Below w.heap.size w w') : Fd w' B u0 u1 u2 u3 u4 u5 u6 x :=
  ⟨h.r0.next b, h.r1.next b, h.r2.next b, h.r3.next b, h.r4.next b, h.r5.next b, h.r6.next b⟩
theorem Fd.but {w w' : World} {B p : Nat} {u0 u1 u2 u3 u4 u5 u6 : Value} {x : PP} (h : Fd w B u0 u1 u2 u3 u4 u5 u6 x) (g : w.grownBy w' (some p)) (hp : p < B) : Fd w' B u0 u1 u2 u3 u4 u5 u6 x :=
  ⟨h.r0.but g hp, h.r1.but g hp, h.r2.but g hp, h.r3.but g hp, h.r4.but g hp, h.r5.but g hp, h.r6.but g hp⟩
/-- Where the Reader, its bytes and the program lie. -/
structure Pl (w : World) (B p q bx : Nat) : Prop where
  p0 : w.heap.size ≤ p
  b0 : w.heap.size ≤ bx
  p1 : p < B
  q1 : q < B
  b1 : bx < B
  ne : p ≠ bx
  nq : bx ≠ q
/-- The state of the reference's Decode. -/
structure Dc (w wr : World) (B p q bx : Nat) (u0 u1 u2 u3 u4 u5 u6 : Value) (x : PP) (t : Sr) : Prop where
  rd : Rd wr p q t.2 t.1
  bl : Below w.heap.size w wr
  box : Bx wr bx 29 #[u0, u1, u2, u3, u4, u5, u6]
  fd : Fd wr B u0 u1 u2 u3 u4 u5 u6 x
  sz : B ≤ wr.heap.size
theorem Dc.next {w wr w' : World} {B p q bx : Nat} {u0 u1 u2 u3 u4 u5 u6 : Value} {x : PP} {t : Sr} (h : Dc w wr B p q bx u0 u1 u2 u3 u4 u5 u6 x t) (b : Below wr.heap.size wr w') : Dc w w' B p q bx u0 u1 u2 u3 u4 u5 u6 x t :=
  ⟨h.rd.below b, nextB h.bl b, h.box.next b, h.fd.next b, Nat.le_trans h.sz b.size⟩
theorem Dc.read {w wr w' : World} {B p q bx : Nat} {u0 u1 u2 u3 u4 u5 u6 : Value} {x : PP} {t t' : Sr} (h : Dc w wr B p q bx u0 u1 u2 u3 u4 u5 u6 x t) (P : Pl w B p q bx) (r : Rp wr w' p q t') : Dc w w' B p q bx u0 u1 u2 u3 u4 u5 u6 x t' :=
  ⟨r.rd, bl_but h.bl P.p0 r.fr, h.box.but r.fr P.ne, h.fd.but r.fr P.p1, Nat.le_trans h.sz r.fr.size⟩
/-- A store into a box that is newer than all rows. -/
theorem Dc.far {w wr : World} {B p q bx y i : Nat} {u0 u1 u2 u3 u4 u5 u6 v : Value} {x : PP} {t : Sr} (h : Dc w wr B p q bx u0 u1 u2 u3 u4 u5 u6 x t) (P : Pl w B p q bx) (hy : B ≤ y) (f : Fd (wr.setCell ⟨y, i, none⟩ v) B u0 u1 u2 u3 u4 u5 u6 x) : Dc w (wr.setCell ⟨y, i, none⟩ v) B p q bx u0 u1 u2 u3 u4 u5 u6 x t := by
  have p0 := P.p0
  have p1 := P.p1
  have q1 := P.q1
  have b1 := P.b1
  exact ⟨h.rd.set _ (by omega) (by omega), bl_set h.bl (by omega) _, h.box.but (grownBy_setCell wr y i v) (by omega), f, by simpa using h.sz⟩
theorem Bx.upd {w : World} {p i : Nat} {T : TypeId} {cs cs' : Array Value} (h : Bx w p T cs) (v : Value) (e : cs' = cs.setIfInBounds i v) : Bx (w.setCell ⟨p, i, none⟩ v) p T cs' := by
  subst e
  refine ⟨?_, h.ty⟩
  rw [setCell_eq_setRow w p i cs T (0, 0) v h.at_]
  exact setRow_heap w p cs _ T _ h.at_
theorem Bx.row {w w' : World} {p : Nat} {T : TypeId} {cs : Array Value} {ob : Option Nat} (h : Bx w p T cs) (g : w.grownBy w' ob) (n : ob ≠ some p) : Bx w' p T cs :=
  ⟨by rw [g.block p (Array.getElem?_eq_some_iff.1 h.at_).1 (fun e => n e.symm)]; exact h.at_, h.ty⟩
/-- Behind an append to one of the rows: all but the rows themselves. -/
theorem Dc.add {w wr w' : World} {B p q bx i : Nat} {u0 u1 u2 u3 u4 u5 u6 v0 v1 v2 v3 v4 v5 v6 v : Value} {x x' : PP} {t : Sr} {ob : Option Nat} (h : Dc w wr B p q bx u0 u1 u2 u3 u4 u5 u6 x t) (P : Pl w B p q bx) (g : wr.grownBy w' ob) (hb : ∀ k, ob = some k → B ≤ k)
    (e : (#[v0, v1, v2, v3, v4, v5, v6] : Array Value) = (#[u0, u1, u2, u3, u4, u5, u6] : Array Value).setIfInBounds i v) (f : Fd w' B v0 v1 v2 v3 v4 v5 v6 x') : Dc w (w'.setCell ⟨bx, i, none⟩ v) B p q bx v0 v1 v2 v3 v4 v5 v6 x' t := by
  have p1 := P.p1
  have q1 := P.q1
  have b1 := P.b1
  have b0 := P.b0
  have p0 := P.p0
  have hB : w.heap.size ≤ B := by omega
  refine ⟨(h.rd.row g (fun e => by have := hb _ e; omega) (fun e => by have := hb _ e; omega)).set _ (fun e => P.ne e.symm) P.nq, bl_set (h.bl.grown g h.bl.size (fun k e => Nat.le_trans hB (hb k e))) b0 _, (h.box.row g (fun e => by have := hb _ e; omega)).upd v e, f.but (grownBy_setCell w' bx i v) b1, by simpa using Nat.le_trans h.sz g.size⟩
theorem Dc.boxAt {w wr w' : World} {B p q bx : Nat} {u0 u1 u2 u3 u4 u5 u6 : Value} {x : PP} {t : Sr} {ob : Option Nat} (h : Dc w wr B p q bx u0 u1 u2 u3 u4 u5 u6 x t) (P : Pl w B p q bx) (g : wr.grownBy w' ob) (hb : ∀ k, ob = some k → B ≤ k) : Bx w' bx 29 #[u0, u1, u2, u3, u4, u5, u6] :=
  h.box.row g (fun e => by have := hb _ e; have := P.b1; omega)
theorem Fd.add0 {w w' : World} {B : Nat} {u0 u1 u2 u3 u4 u5 u6 v : Value} {x0 : List (Int × Int)} {xs : List (Int × Int × List Int × List Int) × List Int × List Int × List Int × List (List Int) × List (Int × Int × Int × Int)} {y : Int × Int} (h : Fd w B u0 u1 u2 u3 u4 u5 u6 (x0, xs)) (o : Qf 62 3 fC w' B v (x0 ++ [y])) (g : w.grownBy w' u0.ownBlock) : Fd w' B v u1 u2 u3 u4 u5 u6 (x0 ++ [y], xs) :=
  ⟨o, h.r1.two h.r0 (by decide) (by decide) g, own_two h.r2 h.r0 (by decide) g, own_two h.r3 h.r0 (by decide) g, own_two h.r4 h.r0 (by decide) g, own_two h.r5 h.r0 (by decide) g, own_two h.r6 h.r0 (by decide) g⟩
theorem Fd.add5 {w w' : World} {B : Nat} {u0 u1 u2 u3 u4 u5 u6 v : Value} {x0 : List (Int × Int)} {x1 : List (Int × Int × List Int × List Int)} {x2 x3 x4 : List Int} {x5 : List (List Int)} {x6 : List (Int × Int × Int × Int)} {y : List Int} (h : Fd w B u0 u1 u2 u3 u4 u5 u6 (x0, x1, x2, x3, x4, x5, x6)) (o : Qf 9 1 fS w' B v (x5 ++ [y])) (g : w.grownBy w' u5.ownBlock) : Fd w' B u0 u1 u2 u3 u4 v u6 (x0, x1, x2, x3, x4, x5 ++ [y], x6) :=
  ⟨own_two h.r0 h.r5 (by decide) g, h.r1.two h.r5 (by decide) (by decide) g, own_two h.r2 h.r5 (by decide) g, own_two h.r3 h.r5 (by decide) g, own_two h.r4 h.r5 (by decide) g, o, own_two h.r6 h.r5 (by decide) g⟩
theorem Fd.add6 {w w' : World} {B : Nat} {u0 u1 u2 u3 u4 u5 u6 v : Value} {x0 : List (Int × Int)} {x1 : List (Int × Int × List Int × List Int)} {x2 x3 x4 : List Int} {x5 : List (List Int)} {x6 : List (Int × Int × Int × Int)} {y : Int × Int × Int × Int} (h : Fd w B u0 u1 u2 u3 u4 u5 u6 (x0, x1, x2, x3, x4, x5, x6)) (o : Qf 36 4 fN w' B v (x6 ++ [y])) (g : w.grownBy w' u6.ownBlock) : Fd w' B u0 u1 u2 u3 u4 u5 v (x0, x1, x2, x3, x4, x5, x6 ++ [y]) :=
  ⟨own_two h.r0 h.r6 (by decide) g, h.r1.two h.r6 (by decide) (by decide) g, own_two h.r2 h.r6 (by decide) g, own_two h.r3 h.r6 (by decide) g, own_two h.r4 h.r6 (by decide) g, own_two h.r5 h.r6 (by decide) g, o⟩
theorem Fd.add1 {w w' : World} {B : Nat} {u0 u1 u2 u3 u4 u5 u6 v : Value} {R : List ((Int × Int × List Int × List Int) × Value × Value)} {x0 : List (Int × Int)} {x1 x1' : List (Int × Int × List Int × List Int)} {xs : List Int × List Int × List Int × List (List Int) × List (Int × Int × Int × Int)} (h : Fd w B u0 u1 u2 u3 u4 u5 u6 (x0, x1, xs)) (r : Qf 59 4 fT w B u1 R) (o : QT w' B v x1') (g : w.grownBy w' u1.ownBlock) : Fd w' B u0 v u2 u3 u4 u5 u6 (x0, x1', xs) :=
  ⟨own_two h.r0 r (by decide) g, o, own_two h.r2 r (by decide) g, own_two h.r3 r (by decide) g, own_two h.r4 r (by decide) g, own_two h.r5 r (by decide) g, own_two h.r6 r (by decide) g⟩
theorem ok7 {x : PP} {bs : List Int} (h : (cProg false).ok x) (hn : ∀ s ∈ x.2.2.2.2.2.1, s.length ≤ maxLen) {w : World} {B : Nat} {u0 u1 u2 u3 u4 u5 u6 : Value} (f : Fd w B u0 u1 u2 u3 u4 u5 u6 x) : Pw w (.agg #[u0, u1, u2, u3, u4, u5, u6]) x := by
  obtain ⟨o0, o1, o2, o3, o4, o5, o6⟩ := h
  obtain ⟨a0, c0, e0, v0⟩ := view_C f.r0 o0.1
  obtain ⟨a1, c1, e1, v1⟩ := view_T f.r1 o1.1
  obtain ⟨a2, c2, e2, v2⟩ := view_I f.r2 o2.1
  obtain ⟨a3, c3, e3, v3⟩ := view_I f.r3 o3.1
  obtain ⟨a4, c4, e4, v4⟩ := view_I f.r4 o4.1
  obtain ⟨a5, c5, e5, v5⟩ := view_S f.r5 (fun s hs => ⟨(o5.1 s hs).1, hn s hs⟩)
  obtain ⟨a6, c6, e6, v6⟩ := view_N f.r6 o6.1
  subst e0 e1 e2 e3 e4 e5 e6
  exact ⟨_, _, _, _, _, _, _, _, _, _, _, _, _, _, _, _, _, _, _, _, _, rfl, v0, v1, v2, v3, v4, v5, v6⟩

end Go.Proofs.YtcmifdnndckpcaaDoor
