/- The law NumWide: what lies in memory while it is walked. -/
import Derived.Test.YtlgdolchnlagcaaB13
namespace Go.Proofs.Ytlgdolchnlagcaa
open Go.RowKit Go.Deep
set_option linter.unusedVariables false

/-- The two numbers of two limbs, their sum, the sum with a product, the number turned: in their places. -/
structure NW (w : World) (b4 b5 c9 c11 c13 : Nat) (h l g k p q m : Int) (W : World) : Prop where
  x : Lies W b4 h l
  y : Lies W b5 g k
  p : Lies W c9 (whi p) (wlo p)
  q : Lies W c11 (whi q) (wlo q)
  m : Lies W c13 (whi m) (wlo m)
  bl : Below w.heap.size w W
theorem NW.below {w W W' : World} {b4 b5 c9 c11 c13 : Nat} {h l g k p q m : Int} (f : NW w b4 b5 c9 c11 c13 h l g k p q m W) (hb : Below W.heap.size W W') : NW w b4 b5 c9 c11 c13 h l g k p q m W' :=
  ⟨f.x.below hb, f.y.below hb, f.p.below hb, f.q.below hb, f.m.below hb, f.bl.trans (hb.mono f.bl.size)⟩

/-- .. and the two numbers by digits. -/
structure NX (w : World) (b4 b5 c9 c11 c13 : Nat) (h l g k p q m : Int) (c d : Nat) (s t : Bool) (ax ay : Option Addr) (nx ny cx cy : Nat) (dx dy : List Int) (W : World) : Prop where
  nw : NW w b4 b5 c9 c11 c13 h l g k p q m W
  sx : Sits W c s ax nx cx
  sy : Sits W d t ay ny cy
  gx : Bg W s ax nx cx dx (val h l)
  gy : Bg W t ay ny cy dy (val g k)
section
variable {w W W' v : World} {b4 b5 c9 c11 c13 : Nat} {h l g k p q m : Int} {c d : Nat} {s t : Bool} {ax ay : Option Addr} {nx ny cx cy : Nat} {dx dy : List Int}
theorem NX.below (f : NX w b4 b5 c9 c11 c13 h l g k p q m c d s t ax ay nx ny cx cy dx dy W) (hb : Below W.heap.size W W') : NX w b4 b5 c9 c11 c13 h l g k p q m c d s t ax ay nx ny cx cy dx dy W' :=
  ⟨f.nw.below hb, f.sx.below hb, f.sy.below hb, f.gx.below hb, f.gy.below hb⟩

theorem ab (h : Below W.heap.size W v) (o : Obj) : Below W.heap.size W (v.alloc o) := h.alloc h.size o
theorem sb {u x : Value} (h : Below W.heap.size W v) (hc : W.heap.size ≤ c) : Below W.heap.size W ((v.setCell ⟨c, 0, none⟩ u).setCell ⟨c, 1, none⟩ x) :=
  (h.setCell (p := ⟨c, 0, none⟩) hc _).setCell (p := ⟨c, 1, none⟩) hc _
theorem st1 {o : Obj} (h : Below (W.alloc o).heap.size (W.alloc o) v) : Below W.heap.size W v :=
  have a : Below W.heap.size W (W.alloc o) := ab (Below.refl _ _) o
  a.trans (h.mono a.size)
theorem st2 {o o' : Obj} (h : Below ((W.alloc o).alloc o').heap.size ((W.alloc o).alloc o') v) : Below W.heap.size W v := st1 (st1 h)

/-- The digits do not lie in that block. -/
abbrev Away (a : Option Addr) (m c : Nat) : Prop := 0 < m → ∀ x, a = some x → x.block ≠ c

theorem Plc.al (h : Plc v c) (o : Obj) : Plc (v.alloc o) c := h.below (ab (Below.refl _ _) o)
theorem Plc.new1 (v : World) (o : Obj) : Plc ((v.alloc o).alloc (.cells #[.bool false, .slice none 0 0] 35)) (v.heap.size + 1) := by
  have := Plc.new (v.alloc o)
  rw [World.size_alloc] at this
  exact this
theorem Sits.new1 (v : World) (o : Obj) (sg : Bool) (a : Option Addr) (m cap : Nat) : Sits ((v.alloc o).alloc (.cells #[.bool sg, .slice a m cap] 35)) (v.heap.size + 1) sg a m cap := by
  have := Sits.new (v.alloc o) sg a m cap
  rw [World.size_alloc] at this
  exact this
theorem Sits.other {u x : Value} {sg : Bool} {a : Option Addr} {m cap : Nat} (f : Sits v c sg a m cap) (ne : c ≠ d) : Sits ((v.setCell ⟨d, 0, none⟩ u).setCell ⟨d, 1, none⟩ x) c sg a m cap :=
  ⟨(set2_other ne).trans f.c0, (set2_other ne).trans f.c1, by simpa using f.lt⟩
theorem Bg.al {sg : Bool} {a : Option Addr} {m cap : Nat} {ds : List Int} {n : Int} (f : Bg v sg a m cap ds n) (o : Obj) : Bg (v.alloc o) sg a m cap ds n := f.below (ab (Below.refl _ _) o)

/-- Both places were made ahead. -/
theorem nx_two (N : NW w b4 b5 c9 c11 c13 h l g k p q m W) (E : Below W.heap.size W v) (G : Bg v s ax nx cx dx (val h l)) (H : Bg v t ay ny cy dy (val g k)) (P : Plc v c) (Q : Plc v d) (ne : c ≠ d) (hc : W.heap.size ≤ c) (hd : W.heap.size ≤ d)
    (a1 : Away ax nx c) (a2 : Away ax nx d) (a3 : Away ay ny c) (a4 : Away ay ny d) :
    NX w b4 b5 c9 c11 c13 h l g k p q m c d s t ax ay nx ny cx cy dx dy ((((v.setCell ⟨c, 0, none⟩ (.bool s)).setCell ⟨c, 1, none⟩ (.slice ax nx cx)).setCell ⟨d, 0, none⟩ (.bool t)).setCell ⟨d, 1, none⟩ (.slice ay ny cy)) :=
  ⟨N.below (sb (sb E hc) hd), (Sits.set P.c0 P.c1 P.lt _ _ _ _).other ne, Sits.set ((set2_other ne.symm).trans Q.c0) ((set2_other ne.symm).trans Q.c1) (by simpa using Q.lt) _ _ _ _, (G.store a1 _ _).store a2 _ _, (H.store a3 _ _).store a4 _ _⟩
/-- The first place is made behind, the second was made ahead. -/
theorem nx_one (N : NW w b4 b5 c9 c11 c13 h l g k p q m W) (E : Below W.heap.size W v) (G : Bg v s ax nx cx dx (val h l)) (H : Bg v t ay ny cy dy (val g k)) (Q : Plc v d) (hd : W.heap.size ≤ d) (a2 : Away ax nx d) (a4 : Away ay ny d) :
    NX w b4 b5 c9 c11 c13 h l g k p q m v.heap.size d s t ax ay nx ny cx cy dx dy (((v.alloc (.cells #[.bool s, .slice ax nx cx] 35)).setCell ⟨d, 0, none⟩ (.bool t)).setCell ⟨d, 1, none⟩ (.slice ay ny cy)) :=
  ⟨N.below (sb (ab E _) hd), (Sits.new _ _ _ _ _).other (by have := Q.lt; omega), Sits.set (Q.al _).c0 (Q.al _).c1 (Q.al _).lt _ _ _ _, (G.al _).store a2 _ _, (H.al _).store a4 _ _⟩
/-- Both places are made behind. -/
theorem nx_new (N : NW w b4 b5 c9 c11 c13 h l g k p q m W) (E : Below W.heap.size W v) (G : Bg v s ax nx cx dx (val h l)) (H : Bg v t ay ny cy dy (val g k)) :
    NX w b4 b5 c9 c11 c13 h l g k p q m v.heap.size (v.heap.size + 1) s t ax ay nx ny cx cy dx dy ((v.alloc (.cells #[.bool s, .slice ax nx cx] 35)).alloc (.cells #[.bool t, .slice ay ny cy] 35)) :=
  ⟨N.below (ab (ab E _) _), (Sits.new _ _ _ _ _).below (ab (Below.refl _ _) _), Sits.new1 _ _ _ _ _ _, (G.al _).al _, (H.al _).al _⟩
theorem nx_wen (N : NW w b4 b5 c9 c11 c13 h l g k p q m W) (E : Below W.heap.size W v) (G : Bg v s ax nx cx dx (val h l)) (H : Bg v t ay ny cy dy (val g k)) :
    NX w b4 b5 c9 c11 c13 h l g k p q m (v.heap.size + 1) v.heap.size s t ax ay nx ny cx cy dx dy ((v.alloc (.cells #[.bool t, .slice ay ny cy] 35)).alloc (.cells #[.bool s, .slice ax nx cx] 35)) :=
  ⟨N.below (ab (ab E _) _), Sits.new1 _ _ _ _ _ _, (Sits.new _ _ _ _ _).below (ab (Below.refl _ _) _), (G.al _).al _, (H.al _).al _⟩
end

/-- What a region over two numbers of two limbs reads. -/
abbrev RdW (W : World) (b c : Nat) (h l g k : Int) (w' : World) : Prop :=
  w'.cell? ⟨b, 0, none⟩ = some (.int .i64 h) ∧ w'.cell? ⟨b, 1, none⟩ = some (.int .u64 l) ∧ w'.cell? ⟨c, 0, none⟩ = some (.int .i64 g) ∧ w'.cell? ⟨c, 1, none⟩ = some (.int .u64 k) ∧ Below W.heap.size W w'
section
variable {W w1 w' : World} {b c e : Nat} {h l g k : Int}
theorem RdW.mk (f : RdW W b c h l g k W) (hb : Below W.heap.size W w') : RdW W b c h l g k w' := by
  obtain ⟨a1, a2, a3, a4, _⟩ := f
  refine ⟨?_, ?_, ?_, ?_, hb⟩
  · rw [hb.cell (p := ⟨b, 0, none⟩) (World.block_lt_of_cell? _ _ a1)]; exact a1
  · rw [hb.cell (p := ⟨b, 1, none⟩) (World.block_lt_of_cell? _ _ a2)]; exact a2
  · rw [hb.cell (p := ⟨c, 0, none⟩) (World.block_lt_of_cell? _ _ a3)]; exact a3
  · rw [hb.cell (p := ⟨c, 1, none⟩) (World.block_lt_of_cell? _ _ a4)]; exact a4
theorem RdW.bl (f : RdW W b c h l g k w1) : Below W.heap.size W w1 := f.2.2.2.2
theorem RdW.out' (f : RdW W b c h l g k w1) (hb : Below w1.heap.size w1 w') : Below W.heap.size W w' := f.bl.trans (hb.mono f.bl.size)
theorem RdW.call (f : RdW W b c h l g k W) (f' : RdW W b c h l g k w1) (hb : Below w1.heap.size w1 w') : RdW W b c h l g k w' := f.mk (f'.out' hb)
theorem RdW.alloc (f : RdW W b c h l g k W) (f' : RdW W b c h l g k w1) (o : Obj) : RdW W b c h l g k (w1.alloc o) := f.mk (ab f'.bl o)
end

/-- What the law's test reads: the five numbers of two limbs, the two by digits. -/
abbrev RdT (W : World) (b4 b5 c9 c11 c13 : Nat) (h l g k p p' q q' m m' : Int) (c d : Nat) (s t : Bool) (ax ay : Option Addr) (nx ny cx cy : Nat) (w' : World) : Prop :=
  w'.cell? ⟨b4, 0, none⟩ = some (.int .i64 h) ∧ w'.cell? ⟨b4, 1, none⟩ = some (.int .u64 l) ∧ w'.cell? ⟨b5, 0, none⟩ = some (.int .i64 g) ∧ w'.cell? ⟨b5, 1, none⟩ = some (.int .u64 k) ∧
  w'.cell? ⟨c9, 0, none⟩ = some (.int .i64 p) ∧ w'.cell? ⟨c9, 1, none⟩ = some (.int .u64 p') ∧ w'.cell? ⟨c11, 0, none⟩ = some (.int .i64 q) ∧ w'.cell? ⟨c11, 1, none⟩ = some (.int .u64 q') ∧
  w'.cell? ⟨c13, 0, none⟩ = some (.int .i64 m) ∧ w'.cell? ⟨c13, 1, none⟩ = some (.int .u64 m') ∧ w'.cell? ⟨c, 0, none⟩ = some (.bool s) ∧ w'.cell? ⟨c, 1, none⟩ = some (.slice ax nx cx) ∧
  w'.cell? ⟨d, 0, none⟩ = some (.bool t) ∧ w'.cell? ⟨d, 1, none⟩ = some (.slice ay ny cy) ∧ Below W.heap.size W w'
section
variable {w W w1 w' : World} {b4 b5 c9 c11 c13 : Nat} {h l g k p p' q q' m m' : Int} {c d : Nat} {s t : Bool} {ax ay : Option Addr} {nx ny cx cy : Nat} {dx dy : List Int}
theorem NX.rd (f : NX w b4 b5 c9 c11 c13 h l g k p q m c d s t ax ay nx ny cx cy dx dy W) (hb : Below W.heap.size W w') : RdT W b4 b5 c9 c11 c13 h l g k (whi p) (wlo p) (whi q) (wlo q) (whi m) (wlo m) c d s t ax ay nx ny cx cy w' :=
  have f' := f.below hb
  ⟨f'.nw.x.hi, f'.nw.x.lo, f'.nw.y.hi, f'.nw.y.lo, f'.nw.p.hi, f'.nw.p.lo, f'.nw.q.hi, f'.nw.q.lo, f'.nw.m.hi, f'.nw.m.lo, f'.sx.c0, f'.sx.c1, f'.sy.c0, f'.sy.c1, hb⟩
theorem RdT.bl (f : RdT W b4 b5 c9 c11 c13 h l g k p p' q q' m m' c d s t ax ay nx ny cx cy w1) : Below W.heap.size W w1 := f.2.2.2.2.2.2.2.2.2.2.2.2.2.2
theorem RdT.out' (f : RdT W b4 b5 c9 c11 c13 h l g k p p' q q' m m' c d s t ax ay nx ny cx cy w1) (hb : Below w1.heap.size w1 w') : Below W.heap.size W w' := f.bl.trans (hb.mono f.bl.size)
end

end Go.Proofs.Ytlgdolchnlagcaa
