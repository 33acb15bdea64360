/- The walks, on: sums of products, by their values. -/
import Derived.Test.YtlgdolchnlagcaaW9
namespace Go.Proofs.Ytlgdolchnlagcaa
open Go.RowKit
set_option linter.unusedVariables false

def wclip (n : Int) : Int := if wfit n then n else 0
theorem wclip_yes {n : Int} (h : wfit n = true) : wclip n = n := by simp [wclip, h]
theorem wclip_bd (n : Int) : -M127 ≤ wclip n ∧ wclip n < M127 := by
  unfold wclip
  by_cases h : wfit n = true
  · rw [if_pos h]; exact wfit_true h
  · rw [if_neg h]; decide
theorem whi_clip (n : Int) : whi n = wclip n / M64 := by
  unfold whi wclip
  by_cases h : wfit n = true
  · rw [if_pos h, if_pos h]
  · rw [if_neg h, if_neg h]; decide
theorem wlo_clip (n : Int) : wlo n = wclip n % M64 := by
  unfold wlo wclip
  by_cases h : wfit n = true
  · rw [if_pos h, if_pos h]
  · rw [if_neg h, if_neg h]; decide

theorem plusmul_val (n a b : Int) (w : World) (n1 : -M127 ≤ n) (n2 : n < M127) (ha : -M63 ≤ a) (ha' : a < M63) (hb : -M63 ≤ b) (hb' : b < M63) :
    Calls Try.prog 23 #[.agg #[.int .i64 (n / M64), .int .u64 (n % M64)], .int .i64 a, .int .i64 b] w fun e w' => e = .returned (.tuple #[.agg #[.int .i64 (wclip (n + a * b) / M64), .int .u64 (wclip (n + a * b) % M64)], .bool (wfit (n + a * b))]) ∧ Below w.heap.size w w' := by
  obtain ⟨a1, a2⟩ := hi_bd n1 n2
  have h := plusmul_any (n / M64) (n % M64) a b w a1 a2 (lo_ge n) (lo_lt n) ha ha' hb hb'
  rw [val_of, whi_clip, wlo_clip] at h
  exact h

/-- The sums, from the front and from the back. -/
def fwd (f : Nat → Int) : Nat → Int
  | 0 => 0
  | k + 1 => fwd f k + f k
def bwd (f : Nat → Int) (n : Nat) : Nat → Int
  | 0 => 0
  | k + 1 => bwd f n k + f (n - 1 - k)
theorem fwd_split (f : Nat → Int) (n : Nat) : ∀ k, k ≤ n → fwd f n = fwd f (n - k) + bwd f n k := by
  intro k
  induction k with
  | zero => intro _; simp [bwd]
  | succ k ih =>
    intro h
    rw [ih (by omega)]
    have e : n - k = (n - (k + 1)) + 1 := by omega
    rw [e, fwd, bwd, show n - 1 - k = n - (k + 1) by omega]
    omega
theorem fwd_bwd (f : Nat → Int) (n : Nat) : fwd f n = bwd f n n := by
  have h := fwd_split f n n (Nat.le_refl _)
  simpa [fwd] using h

/-- The two sums in memory, and that nothing old has turned. -/
structure St (w : World) (b5 b6 : Nat) (va vb : Int) (wr : World) : Prop where
  x : Lies wr b5 (va / M64) (va % M64)
  y : Lies wr b6 (vb / M64) (vb % M64)
  bl : Below w.heap.size w wr
  f5 : ∀ o, wr.frozen? ⟨b5, o, none⟩ = false
  f6 : ∀ o, wr.frozen? ⟨b6, o, none⟩ = false
theorem St.below {w w1 w' : World} {b5 b6 : Nat} {va vb : Int} (f : St w b5 b6 va vb w1) (hb : Below w1.heap.size w1 w') : St w b5 b6 va vb w' :=
  ⟨f.x.below hb, f.y.below hb, f.bl.trans (hb.mono f.bl.size), fun o => by rw [hb.frozen (p := ⟨b5, o, none⟩) f.x.lt]; exact f.f5 o, fun o => by rw [hb.frozen (p := ⟨b6, o, none⟩) f.y.lt]; exact f.f6 o⟩

/-- What a region with a sum of a product reads. -/
abbrev RdP (wr : World) (b c d : Nat) (oc od : Nat) (h l x y : Int) (w' : World) : Prop :=
  w'.cell? ⟨b, 0, none⟩ = some (.int .i64 h) ∧ w'.cell? ⟨b, 1, none⟩ = some (.int .u64 l) ∧ w'.cell? ⟨c, oc, none⟩ = some (.int .i64 x) ∧ w'.cell? ⟨d, od, none⟩ = some (.int .i64 y) ∧ Below wr.heap.size wr w'
theorem RdP.mk {wr w' : World} {b c d oc od : Nat} {h l x y : Int} (p : RdP wr b c d oc od h l x y wr) (hb : Below wr.heap.size wr w') : RdP wr b c d oc od h l x y w' := by
  obtain ⟨a1, a2, a3, a4, _⟩ := p
  refine ⟨?_, ?_, ?_, ?_, hb⟩
  · rw [hb.cell (p := ⟨b, 0, none⟩) (World.block_lt_of_cell? _ _ a1)]; exact a1
  · rw [hb.cell (p := ⟨b, 1, none⟩) (World.block_lt_of_cell? _ _ a2)]; exact a2
  · rw [hb.cell (p := ⟨c, oc, none⟩) (World.block_lt_of_cell? _ _ a3)]; exact a3
  · rw [hb.cell (p := ⟨d, od, none⟩) (World.block_lt_of_cell? _ _ a4)]; exact a4
theorem RdP.call {wr w1 w' : World} {b c d oc od : Nat} {h l x y : Int} (p : RdP wr b c d oc od h l x y wr) (q : RdP wr b c d oc od h l x y w1) (hb : Below w1.heap.size w1 w') : RdP wr b c d oc od h l x y w' :=
  p.mk (q.2.2.2.2.trans (hb.mono q.2.2.2.2.size))
theorem RdP.alloc {wr w1 : World} {b c d oc od : Nat} {h l x y : Int} (p : RdP wr b c d oc od h l x y wr) (q : RdP wr b c d oc od h l x y w1) (o : Obj) : RdP wr b c d oc od h l x y (w1.alloc o) :=
  p.mk (q.2.2.2.2.alloc q.2.2.2.2.size o)
theorem RdP.store {wr w1 : World} {b c d oc od e : Nat} {h l x y : Int} {u v : Value} (p : RdP wr b c d oc od h l x y wr) (q : RdP wr b c d oc od h l x y w1) (he : wr.heap.size ≤ e) :
    RdP wr b c d oc od h l x y ((w1.setCell ⟨e, 0, none⟩ u).setCell ⟨e, 1, none⟩ v) :=
  p.mk ((q.2.2.2.2.setCell (p := ⟨e, 0, none⟩) he _).setCell (p := ⟨e, 1, none⟩) he _)

/-- A new block holds a sum, nothing old has turned. -/
def Put (wr wx : World) (b : Nat) (n : Int) : Prop := Lies wx b (n / M64) (n % M64) ∧ Below wr.heap.size wr wx ∧ wr.heap.size ≤ b
theorem putA {wr w1 : World} (n : Int) (hb : Below wr.drew.heap.size wr.drew w1) : Put wr (w1.alloc (Obj.cells #[Value.int IntKind.i64 (n / M64), Value.int IntKind.u64 (n % M64)] 28)) w1.heap.size n := by
  have b : Below wr.heap.size wr w1 := (Below.refl _ _).drew.trans hb
  exact ⟨Lies.new w1 _ _, b.alloc b.size _, b.size⟩
theorem putB {wr w1 : World} (n : Int) (hb : Below (wr.alloc (Obj.cells #[Value.int IntKind.i64 0, Value.int IntKind.u64 0] 28)).drew.heap.size (wr.alloc (Obj.cells #[Value.int IntKind.i64 0, Value.int IntKind.u64 0] 28)).drew w1) :
    Put wr ((w1.setCell ⟨wr.heap.size, 0, none⟩ (.int .i64 (n / M64))).setCell ⟨wr.heap.size, 1, none⟩ (.int .u64 (n % M64))) wr.heap.size n := by
  have b : Below (wr.alloc (Obj.cells #[Value.int IntKind.i64 0, Value.int IntKind.u64 0] 28)).heap.size (wr.alloc (Obj.cells #[Value.int IntKind.i64 0, Value.int IntKind.u64 0] 28)) w1 := (Below.refl _ _).drew.trans hb
  have c := (Lies.new wr 0 0).below b
  have y := (Below.refl wr.heap.size wr).alloc (Nat.le_refl _) (Obj.cells #[Value.int IntKind.i64 0, Value.int IntKind.u64 0] 28)
  have y1 := y.trans (b.mono y.size)
  exact ⟨Lies.set _ _ c.hi c.lo c.lt, (y1.setCell (p := ⟨wr.heap.size, 0, none⟩) (Nat.le_refl _) _).setCell (p := ⟨wr.heap.size, 1, none⟩) (Nat.le_refl _) _, Nat.le_refl _⟩

end Go.Proofs.Ytlgdolchnlagcaa
