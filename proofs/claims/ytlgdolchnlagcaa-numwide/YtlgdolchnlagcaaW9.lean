/- The walks, on: numbers of two limbs by their value; what lies in memory behind a sum. -/
import Derived.Test.YtlgdolchnlagcaaW8
namespace Go.Proofs.Ytlgdolchnlagcaa
open Go.RowKit
set_option linter.unusedVariables false

theorem of0 (w : World) : Calls Try.prog 14 #[.int .i64 0] w fun e w' => e = .returned (.agg #[.int .i64 0, .int .u64 0]) ∧ Below w.heap.size w w' := of_any 0 w (by decide) (by decide)

theorem hi_bd {n : Int} (h : -M127 ≤ n) (k : n < M127) : -M63 ≤ n / M64 ∧ n / M64 < M63 := by unfold M127 M63 M64 at *; omega

/-- The product of two numbers, added to nought. -/
theorem pm0 (q b : Int) (w : World) (q1 : -M63 ≤ q) (q2 : q < M63) (b1 : -M63 ≤ b) (b2 : b < M63) :
    Calls Try.prog 23 #[.agg #[.int .i64 0, .int .u64 0], .int .i64 q, .int .i64 b] w fun e w' => e = .returned (.tuple #[.agg #[.int .i64 (q * b / M64), .int .u64 (q * b % M64)], .bool true]) ∧ Below w.heap.size w w' := by
  have h := plusmul_any 0 0 q b w (by decide) (by decide) (by decide) (by decide) q1 q2 b1 b2
  have d := mul_bd q1 q2 b1 b2
  have f : wfit (q * b) = true := wfit_yes (by unfold M63 M127 at *; omega) (by unfold M63 M127 at *; omega)
  rw [show val 0 0 + q * b = q * b by unfold val; omega, f, whi_yes f, wlo_yes f] at h
  exact h

/-- A number of one limb added to one of two limbs: by their values. -/
theorem plus_val (n m : Int) (w : World) (n1 : -M127 ≤ n) (n2 : n < M127) (m1 : -M127 ≤ m) (m2 : m < M127) (s1 : -M127 ≤ n + m) (s2 : n + m < M127) :
    Calls Try.prog 16 #[.agg #[.int .i64 (n / M64), .int .u64 (n % M64)], .agg #[.int .i64 (m / M64), .int .u64 (m % M64)]] w fun e w' => e = .returned (.tuple #[.agg #[.int .i64 ((n + m) / M64), .int .u64 ((n + m) % M64)], .bool true]) ∧ Below w.heap.size w w' := by
  obtain ⟨a1, a2⟩ := hi_bd n1 n2
  obtain ⟨c1, c2⟩ := hi_bd m1 m2
  have h := plus_any (n / M64) (n % M64) (m / M64) (m % M64) w a1 a2 c1 c2 (lo_ge n) (lo_lt n) (lo_ge m) (lo_lt m)
  have f : wfit (n + m) = true := wfit_yes s1 s2
  rw [val_of, val_of, f, whi_yes f, wlo_yes f] at h
  exact h

theorem cmp_val (n m : Int) (w : World) :
    Calls Try.prog 27 #[.agg #[.int .i64 (n / M64), .int .u64 (n % M64)], .agg #[.int .i64 (m / M64), .int .u64 (m % M64)]] w fun e w' => e = .returned (.int .i64 (cmpI n m)) ∧ Below w.heap.size w w' := by
  have h := cmp_any (n / M64) (n % M64) (m / M64) (m % M64) w (lo_ge n) (lo_lt n) (lo_ge m) (lo_lt m)
  rw [val_of, val_of] at h
  exact h

/-- What lies in memory behind 'v, ok := x.Plus(Of(c))', whenever v's place is made. -/
def Sum (W : World) (bx : Nat) (hx lx : Int) (W' : World) (b : Nat) (h l : Int) : Prop := Lies W' b h l ∧ Lies W' bx hx lx ∧ Below W.heap.size W W'

theorem sumA {W w4 w5 : World} {bx : Nat} {hx lx : Int} (k : Lies W bx hx lx) (h l : Int) (hb4 : Below W.drew.heap.size W.drew w4) (hb5 : Below w4.heap.size w4 w5) :
    Sum W bx hx lx (w5.alloc (Obj.cells #[Value.int IntKind.i64 h, Value.int IntKind.u64 l] 28)) w5.heap.size h l := by
  have b : Below W.heap.size W w4 := (Below.refl _ _).drew.trans hb4
  have y := b.trans (hb5.mono b.size)
  exact ⟨Lies.new w5 h l, ((k.below b).below hb5).alloc _, y.alloc y.size _⟩

theorem sumB {W w4 w5 : World} {bx : Nat} {hx lx : Int} (k : Lies W bx hx lx) (h l : Int) (hb4 : Below W.drew.heap.size W.drew w4)
    (hb5 : Below (w4.alloc (Obj.cells #[Value.int IntKind.i64 0, Value.int IntKind.u64 0] 28)).heap.size (w4.alloc (Obj.cells #[Value.int IntKind.i64 0, Value.int IntKind.u64 0] 28)) w5) :
    Sum W bx hx lx ((w5.setCell ⟨w4.heap.size, 0, none⟩ (.int .i64 h)).setCell ⟨w4.heap.size, 1, none⟩ (.int .u64 l)) w4.heap.size h l := by
  have b : Below W.heap.size W w4 := (Below.refl _ _).drew.trans hb4
  have c := (Lies.new w4 0 0).below hb5
  have k4 := k.below b
  have y := b.alloc b.size (Obj.cells #[Value.int IntKind.i64 0, Value.int IntKind.u64 0] 28)
  have y2 := y.trans (hb5.mono y.size)
  exact ⟨Lies.set h l c.hi c.lo c.lt, ((k4.alloc _).below hb5).other k4.lt, (y2.setCell b.size _).setCell b.size _⟩

theorem sumC {W w4 w5 : World} {bx : Nat} {hx lx : Int} (k : Lies W bx hx lx) (h l : Int)
    (hb4 : Below (W.alloc (Obj.cells #[Value.int IntKind.i64 0, Value.int IntKind.u64 0] 28)).drew.heap.size (W.alloc (Obj.cells #[Value.int IntKind.i64 0, Value.int IntKind.u64 0] 28)).drew w4) (hb5 : Below w4.heap.size w4 w5) :
    Sum W bx hx lx ((w5.setCell ⟨W.heap.size, 0, none⟩ (.int .i64 h)).setCell ⟨W.heap.size, 1, none⟩ (.int .u64 l)) W.heap.size h l := by
  have b : Below (W.alloc (Obj.cells #[Value.int IntKind.i64 0, Value.int IntKind.u64 0] 28)).heap.size (W.alloc (Obj.cells #[Value.int IntKind.i64 0, Value.int IntKind.u64 0] 28)) w4 := (Below.refl _ _).drew.trans hb4
  have c := ((Lies.new W 0 0).below b).below hb5
  have y := (Below.refl W.heap.size W).alloc (Nat.le_refl _) (Obj.cells #[Value.int IntKind.i64 0, Value.int IntKind.u64 0] 28)
  have y1 := y.trans (b.mono y.size)
  have y2 := y1.trans (hb5.mono y1.size)
  exact ⟨Lies.set h l c.hi c.lo c.lt, (((k.alloc _).below b).below hb5).other k.lt, (y2.setCell (Nat.le_refl _) _).setCell (Nat.le_refl _) _⟩

end Go.Proofs.Ytlgdolchnlagcaa
