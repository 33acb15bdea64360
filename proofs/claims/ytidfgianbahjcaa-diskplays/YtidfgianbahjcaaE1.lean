/- What the rows give the walks: bytes that came in, and slices of the law's acts. -/
import Derived.Test.YtidfgianbahjcaaD8
import Derived.Test.YtidfgianbahjcaaSf
import Derived.ProofKit
import Derived.OpenShut
import Derived.ShutString
import Derived.ChangeOld
import Derived.Below
namespace Go.Proofs.Ytidfgianbahjcaa
open Go.ChangeShapes Go.WideShapes Go.ChangeAt Go.RowKit Go.Deep
set_option linter.unusedVariables false

theorem own : ownKnob Try.prog.godebug = none := by kernel_rfl
theorem laidOut : laidOutB Try.prog = true := by kernel_rfl
/-- Bytes that came in. -/
theorem by_of {H : Type} {enc : TypeId × Value → H} {W : World} {base fuel : Nat} {sp : Nat → Bool} {held : Bool} {a : Option Addr} {len cap : Nat} {x : DataW H × List MemPlace}
    (h : DataW.trod enc Try.prog W base sp held fuel 27 (Value.slice a len cap).cells.toList = some x) : ∃ zs, By W a len cap zs := by
  rcases open_ints Try.underlying27 Try.underlying5 (by kernel_rfl) h with ⟨hcs, _⟩ | ⟨x, l, c, zs, hcs, _, hl, hm, hz, _, hcell, hwz⟩
  · simp [Value.cells] at hcs
    obtain ⟨rfl, rfl, rfl⟩ := hcs
    exact ⟨[], By.empty W⟩
  · simp [Value.cells] at hcs
    obtain ⟨rfl, rfl, rfl⟩ := hcs
    have hlz : len ≤ zs.length := by rw [hz]; split <;> omega
    obtain ⟨b, off, spot⟩ := x
    have hspot : 0 < len → spot = none := fun p => by
      have hc := hcell 0 (by omega)
      simpa [Addr.add] using World.cell?_spot hc
    refine ⟨zs.take len, by simp; omega, hl, hm, fun e => by simp at e, ⟨b, off, fun p => by rw [hspot p], fun i hi => ?_⟩, fun z hz => ?_⟩
    · obtain rfl := hspot (by omega)
      have := hcell i (by omega)
      rw [Addr.add_mid] at this
      rw [this]
      have e : (zs.take len).getD i 0 = zs.getD i 0 := by simp [List.getD, hi]
      rw [e]
    · have := hwz z (List.mem_of_mem_take hz)
      simp [Lit.wf, IntKind.min, IntKind.max, IntKind.signed, IntKind.bits] at this
      omega

/-- One of the law's acts. -/
structure Ac where
  op : Int
  sec : Int
  n : Int
  how : Int
  b : List Int
/-- It lies in memory, from a cell on. -/
structure AcAt (w : World) (g o : Nat) (x : Ac) (a : Option Addr) (m c : Nat) : Prop where
  c0 : w.cell? ⟨g, o, none⟩ = some (.int .i64 x.op)
  c1 : w.cell? ⟨g, o + 1, none⟩ = some (.int .i64 x.sec)
  c2 : w.cell? ⟨g, o + 2, none⟩ = some (.int .i64 x.n)
  c3 : w.cell? ⟨g, o + 3, none⟩ = some (.int .i64 x.how)
  c4 : w.cell? ⟨g, o + 4, none⟩ = some (.slice a m c)
  by4 : By w a m c x.b
  nm : x.n ≤ 9223372036854775807
structure Acts (w : World) (a : Option Addr) (len cap : Nat) (f : Nat → Ac) : Prop where
  fits : len ≤ cap
  max : cap ≤ maxLen
  at_ : ∃ g o, (0 < len → a = some ⟨g, o, none⟩) ∧ ∀ i, i < len → ∃ a' m c, AcAt w g (o + i * 5) (f i) a' m c

theorem i64_of {H : Type} {enc : TypeId × Value → H} {W : World} {base fuel : Nat} {sp : Nat → Bool} {held : Bool} {V : Value} {y : DataW H × List MemPlace} (h : DataW.trod enc Try.prog W base sp held fuel 3 [V] = some y) : ∃ z, V = .int .i64 z ∧ z ≤ 9223372036854775807 := by
  obtain ⟨z, hc, _, hw⟩ := DataW.trod_int Try.underlying3 h
  simp at hc
  have := bounds_i64 hw
  exact ⟨z, hc, by omega⟩
theorem slice_of {H : Type} {enc : TypeId × Value → H} {W : World} {base fuel : Nat} {sp : Nat → Bool} {held : Bool} {V : Value} {y : DataW H × List MemPlace} (h : DataW.trod enc Try.prog W base sp held fuel 27 [V] = some y) : ∃ a m c b, V = .slice a m c ∧ By W a m c b := by
  have : ∃ a m c, V = .slice a m c := by
    rcases open_slice Try.underlying27 h with ⟨hcs, _⟩ | ⟨x, l, c, m, n, D, Pl, hcs, _⟩
    · simp at hcs; exact ⟨_, _, _, hcs⟩
    · simp at hcs; exact ⟨_, _, _, hcs⟩
  obtain ⟨a, m, c, rfl⟩ := this
  obtain ⟨b, hb⟩ := by_of (a := a) (len := m) (cap := c) h
  exact ⟨a, m, c, b, rfl, hb⟩
theorem acts_of {H : Type} {enc : TypeId × Value → H} {W : World} {base fuel : Nat} {sp : Nat → Bool} {held : Bool} {a : Option Addr} {len cap : Nat} {x : DataW H × List MemPlace}
    (h : DataW.trod enc Try.prog W base sp held fuel 31 (Value.slice a len cap).cells.toList = some x) : ∃ f, Acts W a len cap f := by
  obtain ⟨h1, h2, h3, g, o, h4, h5⟩ := open_slice_fields Try.underlying31 Try.underlying35 (hone_of (by kernel_rfl)) (by kernel_rfl) (by decide) h
  have key : ∀ i, i < len → ∃ x : Ac, ∃ a' m c, AcAt W g (o + i * 5) x a' m c := fun i hi => by
    obtain ⟨V0, n0, y0, e0, t0⟩ := h5 i hi 0 _ rfl
    obtain ⟨V1, n1, y1, e1, t1⟩ := h5 i hi 1 _ rfl
    obtain ⟨V2, n2, y2, e2, t2⟩ := h5 i hi 2 _ rfl
    obtain ⟨V3, n3, y3, e3, t3⟩ := h5 i hi 3 _ rfl
    obtain ⟨V4, n4, y4, e4, t4⟩ := h5 i hi 4 _ rfl
    obtain ⟨z0, rfl, _⟩ := i64_of t0
    obtain ⟨z1, rfl, _⟩ := i64_of t1
    obtain ⟨z2, rfl, m2⟩ := i64_of t2
    obtain ⟨z3, rfl, _⟩ := i64_of t3
    obtain ⟨a4, m4, c4, b4, rfl, hb⟩ := slice_of t4
    exact ⟨⟨z0, z1, z2, z3, b4⟩, a4, m4, c4, e0, e1, e2, e3, e4, hb, m2⟩
  refine ⟨fun i => if hi : i < len then Classical.choose (key i hi) else ⟨0, 0, 0, 0, []⟩, h1, h2, g, o, h4, fun i hi => ?_⟩
  simp only [dif_pos hi]
  exact Classical.choose_spec (key i hi)

end Go.Proofs.Ytidfgianbahjcaa
