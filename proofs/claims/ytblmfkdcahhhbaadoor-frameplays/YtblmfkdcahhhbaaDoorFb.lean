/- The program's disk and the reference's at one state; an append as a step of a drawn region. -/
import Derived.Test.YtblmfkdcahhhbaaDoorK4
import Derived.Deep.RegionHeld3
import Derived.Deep.QuietTactic
import Derived.BigQuiet
import Derived.Deep.DeepCutAuto
namespace Go.Proofs.YtblmfkdcahhhbaaDoor
open Go.RowKit
set_option linter.unusedVariables false
set_option linter.unusedSimpArgs false

theorem own_empty (w : World) : Own (w.alloc (.cells #[] 5)) w.heap.size (.slice (some ⟨w.heap.size, 0, none⟩) 0 0) [] :=
  ⟨⟨rfl, .inr ⟨w.heap.size, 0, #[], rfl, Nat.le_refl _, heap_alloc_last w _, Nat.le_refl _, Nat.zero_le _, rfl, rfl⟩⟩, Bys.nil⟩
/-- 'append(x, bs...)', x a call's own, bs whatever bytes: the run. -/
theorem run_append_by {w : World} (ty : TypeId) (base : Nat) (v : Value) (xs : List Int) (hown : Own w base v xs) (ad : Option Addr) (m c : Nat) (bs : List Int) (hb : By w ad m c bs) (hbytes : xs.length + m ≤ 1000000) (hbase : base ≤ w.heap.size) :
    ∃ v' w', (Builtin.append_ #[32, 32] ty #[v, .slice ad m c]).run Tryd.prog w = .ok v' w' ∧ Own w' base v' (xs ++ bs) ∧ w.grownBy w' v.ownBlock := by
  obtain ⟨i0, hi, hz0, hz1, hz2⟩ := info_parts byteInfo
  cases ad with
  | none =>
    obtain ⟨rfl, rfl, rfl⟩ := hb.none_nil
    exact ⟨v, w, run_append_owned_none (P := Tryd.prog) w base 32 ty 5 i0 1 Tryd.underlying32 hi v _ _ hown.row, by simpa using hown, World.grownBy.refl w _⟩
  | some ad =>
    obtain ⟨v', w', hr, ho', hg, _⟩ := run_append_own (P := Tryd.prog) w base 32 ty 5 i0 (.int .u8 0) 1 1 Tryd.underlying32 hi hz0 hz1 hz2 rfl (by decide) v _ _ hown.row ad m c (bs.map (Value.int .u8)) (by simp [hb.len]) hb.news (bytes_one bs) (by unfold maxLen; omega) (by omega) hbase
    refine ⟨v', w', hr, ⟨?_, hown.ok.app hb.ok⟩, hg⟩
    have e : (xs ++ bs).length = xs.length + m := by simp [hb.len]
    rw [e, List.map_append]
    exact ho'
theorem step_append_by {w : World} {ops : Array Oper} {o : Oper} {a : Act} {K : Act → World → Prop} {Q : Exit → Act → World → Prop} {E : Prop} (hgd : o.guard = none) (s x : Operand)
    (ho : o.op = .call { callee := .builtin .append, args := #[s, x], argTypes := #[32, 32] })
    (base : Nat) (v : Value) (xs : List Int) (hs : a.eval s = v) (hown : Own w base v xs) (ad : Option Addr) (m c : Nat) (bs : List Int) (hx : a.eval x = .slice ad m c) (hb : By w ad m c bs) (hbytes : xs.length + m ≤ 1000000) (hbase : base ≤ w.heap.size)
    (h : ∀ v' w', Own w' base v' (xs ++ bs) → w.grownBy w' v.ownBlock → K (a.put o.dst v') w') : if Region.wanted o (yielded ops a.tmps) = true then Oper.wp Tryd.prog o a w K Q else E := by
  have hw : Region.wanted o (yielded ops a.tmps) = true := by simp [Region.wanted, hgd]
  rw [if_pos hw]
  obtain ⟨v', w', hr, h2, h3⟩ := run_append_by o.type base v xs hown ad m c bs hb hbytes hbase
  unfold Oper.wp execOp
  simp only [ho, resolve, invoke, builtin, Sem.run_bind, Sem.run_pure, Result.andThen_ok, List.map_toArray, List.map_cons, List.map_nil, hs, hx, hr]
  exact h v' w' h2 h3

/-- Two disks that share nothing. -/
structure Sep2 (p q p' q' : Nat) : Prop where
  a : p ≠ p'
  b : p ≠ q'
  c : q ≠ p'
  d : q ≠ q'
/-- The program's disk at p, q and the reference's at p', q', both at one state; nothing turned that was there before. -/
structure Both (w0 : World) (p q p' q' n : Nat) (s : St) (wr : World) : Prop where
  i : InvD w0 p q n s wr
  k : Kk wr p' q' n s
  ne : Sep2 p q p' q'
  lp : w0.heap.size ≤ p'
  lq : w0.heap.size ≤ q'
theorem Both.below {w0 wr w1 : World} {p q p' q' n : Nat} {s : St} (h : Both w0 p q p' q' n s wr) (b : Below wr.heap.size wr w1) : Both w0 p q p' q' n s w1 :=
  ⟨h.i.below b, h.k.below b, h.ne, h.lp, h.lq⟩
/-- A call of each. -/
theorem Both.step {w0 wr w1 w2 : World} {p q p' q' n : Nat} {s s' : St} (h : Both w0 p q p' q' n s wr) (d : Dk w1 p q n s') (g : Gr p q wr w1) (k : Kk w2 p' q' n s') (g' : Gr p' q' w1 w2) : Both w0 p q p' q' n s' w2 :=
  ⟨⟨d.gr g' h.ne.a h.ne.b h.ne.c h.ne.d, Below.gr (Below.gr h.i.b g h.i.b.size h.i.lp h.i.lq) g' (Nat.le_trans h.i.b.size g.size) h.lp h.lq, h.i.lp, h.i.lq⟩, k, h.ne, h.lp, h.lq⟩
theorem Both.kk {w0 wr w1 : World} {p q p' q' n : Nat} {s : St} (h : Both w0 p q p' q' n s wr) (g : Gr p q wr w1) : Kk w1 p' q' n s :=
  h.k.gr g h.ne.a.symm h.ne.c.symm h.ne.b.symm h.ne.d.symm
/-- The program's disk is copied, and the first one written to. -/
theorem Both.copy {w0 wr w1 w2 : World} {p q p' q' n pc qc : Nat} {s : St} (h : Both w0 p q p' q' n s wr) (d : Dk w1 pc qc n s) (h1 : wr.heap.size ≤ pc) (h2 : wr.heap.size ≤ qc) (b : Below wr.heap.size wr w1) (g : Gr p q w1 w2) : Both w0 pc qc p' q' n s w2 := by
  have hp := h.i.d.ltp
  have hq := h.i.d.ltq
  have kp := h.k.ltp
  have kq := h.k.ltq
  have bs := h.i.b.size
  exact ⟨⟨d.gr g (by omega) (by omega) (by omega) (by omega), Below.gr (nextB h.i.b b) g (Nat.le_trans bs b.size) h.i.lp h.i.lq, by omega, by omega⟩, (h.k.below b).gr g h.ne.a.symm h.ne.c.symm h.ne.b.symm h.ne.d.symm, ⟨by omega, by omega, by omega, by omega⟩, h.lp, h.lq⟩

/-- Old blocks but four are as they were. -/
structure Ap4 (p q p' q' : Nat) (w w' : World) : Prop where
  size : w.heap.size ≤ w'.heap.size
  block : ∀ k, k < w.heap.size → k ≠ p → k ≠ q → k ≠ p' → k ≠ q' → w'.heap[k]? = w.heap[k]?
theorem Ap4.of_below {p q p' q' : Nat} {w w' : World} (h : Below w.heap.size w w') : Ap4 p q p' q' w w' := ⟨h.size, fun k hk _ _ _ _ => h.block k hk⟩
theorem Ap4.gr {p q p' q' : Nat} {w w1 w2 : World} (h : Ap4 p q p' q' w w1) (g : Gr p q w1 w2) : Ap4 p q p' q' w w2 :=
  ⟨Nat.le_trans h.size g.size, fun k hk h1 h2 h3 h4 => (g.block k (Nat.lt_of_lt_of_le hk h.size) h1 h2).trans (h.block k hk h1 h2 h3 h4)⟩
theorem Ap4.gr' {p q p' q' : Nat} {w w1 w2 : World} (h : Ap4 p q p' q' w w1) (g : Gr p' q' w1 w2) : Ap4 p q p' q' w w2 :=
  ⟨Nat.le_trans h.size g.size, fun k hk h1 h2 h3 h4 => (g.block k (Nat.lt_of_lt_of_le hk h.size) h3 h4).trans (h.block k hk h1 h2 h3 h4)⟩
theorem Ap4.by {p q p' q' : Nat} {w w' : World} (h : Ap4 p q p' q' w w') {a : Option Addr} {m c : Nat} {b : List Int} (y : By w a m c b) (hne : 0 < m → ∀ x, a = some x → x.block ≠ p ∧ x.block ≠ q ∧ x.block ≠ p' ∧ x.block ≠ q') : By w' a m c b :=
  y.kept fun k x hx => h.block x.block (y.old k x hx) (hne k x hx).1 (hne k x hx).2.1 (hne k x hx).2.2.1 (hne k x hx).2.2.2
theorem Ap4.cell {p q p' q' : Nat} {w w' : World} (h : Ap4 p q p' q' w w') {g o : Nat} (hg : g < w.heap.size) (h1 : g ≠ p) (h2 : g ≠ q) (h3 : g ≠ p') (h4 : g ≠ q') : w'.cell? ⟨g, o, none⟩ = w.cell? ⟨g, o, none⟩ :=
  World.cell?_of_block (w := w) (a := ⟨g, o, none⟩) (h.block g hg h1 h2 h3 h4)


end Go.Proofs.YtblmfkdcahhhbaaDoor
