/- Rows of words in memory, and append of one. -/
import Derived.Test.YtobolipjgkabhaaDoorLb
import Derived.Laws.AppendOwn
namespace Go.Proofs.YtobolipjgkabhaaDoor
open Go.RowKit
set_option linter.unusedVariables false
set_option linter.unusedSimpArgs false
attribute [local go_sem] Oper.semAt_some

abbrev Wd := Nat × Nat × Nat × Nat
/-- A word's cells: kind, length, number and place, its text out of s. -/
def wC (s : ByteArray) (x : Wd) : List Value := [.int .i64 (x.1 : Nat), .string (s.extract x.2.2.2 (x.2.2.2 + x.2.1)), .int .i64 (x.2.2.1 : Nat), .int .i64 (x.2.2.2 : Nat)]
def wCs (s : ByteArray) (R : List Wd) : List Value := R.flatMap (wC s)
theorem wCs_len (s : ByteArray) : ∀ R : List Wd, (wCs s R).length = R.length * 4
  | [] => rfl
  | x :: R => by
    have e : wCs s (x :: R) = wC s x ++ wCs s R := rfl
    rw [e, List.length_append, wCs_len s R, List.length_cons]
    show 4 + _ = _
    omega
theorem wCs_app (s : ByteArray) (R T : List Wd) : wCs s (R ++ T) = wCs s R ++ wCs s T := by unfold wCs; rw [List.flatMap_append]
theorem wCs_one (s : ByteArray) (x : Wd) : wCs s [x] = wC s x := by unfold wCs; simp
theorem wCs_at (s : ByteArray) : ∀ (R : List Wd) (i : Nat) (x : Wd) (j : Nat), R[i]? = some x → j < 4 → (wCs s R)[i * 4 + j]? = (wC s x)[j]?
  | [], i, x, j, h, hj => by simp at h
  | y :: R, 0, x, j, h, hj => by
    have e : wCs s (y :: R) = wC s y ++ wCs s R := rfl
    simp at h
    subst h
    rw [e, List.getElem?_append_left (by show _ < 4; omega)]
    simp
  | y :: R, i + 1, x, j, h, hj => by
    have e : wCs s (y :: R) = wC s y ++ wCs s R := rfl
    have l : (wC s y).length = 4 := rfl
    rw [e, List.getElem?_append_right (by omega), l, show (i + 1) * 4 + j - 4 = i * 4 + j by omega]
    exact wCs_at s R i x j (by simpa using h) hj
theorem wordInfo : (Tryd.prog.info? 41).map (fun i => (i.zero, i.size, i.bytes)) = some (some (.agg #[.int .i64 0, .string ⟨#[]⟩, .int .i64 0, .int .i64 0]), 4, 40) := by kernel_rfl
/-- A row of words that the call made: all blocks from base on are its own. -/
def Rw (w : World) (base : Nat) (e : TypeId) (s : ByteArray) (v : Value) (R : List Wd) : Prop := w.ownsRow base e 4 v R.length (wCs s R)
theorem Rw.nil (w : World) (base : Nat) (e : TypeId) (s : ByteArray) : Rw w base e s (.slice none 0 0) [] := World.ownsRow_nil _ _ _ _
theorem Rw.next {w w' : World} {base : Nat} {e : TypeId} {s : ByteArray} {v : Value} {R : List Wd} (h : Rw w base e s v R) (hb : Below w.heap.size w w') : Rw w' base e s v R := by
  refine ⟨h.1, ?_⟩
  rcases h.2 with hn | ⟨g, cap, cur, hv, hg, hk, rest⟩
  · exact .inl hn
  · refine .inr ⟨g, cap, cur, hv, hg, ?_, rest⟩
    rw [hb.block g (Array.getElem?_eq_some_iff.1 hk).1]
    exact hk
theorem wpList_addX {w : World} {ops : Array Oper} {rest : List Oper} {o : Oper} {a : Act} {Q : Exit → Act → World → Prop} (hgd : o.guard = none) (sl x : Operand)
    (ho : o.op = .call { callee := .builtin .append, args := #[sl, x], argTypes := #[33, 33] }) (s : ByteArray) (base : Nat) (v : Value) (R : List Wd) (y : Wd) (hs : a.eval sl = v) (hown : Rw w base 41 s v R)
    (b : Nat) (hx : a.eval x = .slice (some ⟨b, 0, none⟩) 1 1) (hc : ∀ j u, (wC s y)[j]? = some u → w.cell? ⟨b, j, none⟩ = some u) (hl : R.length ≤ 100000) (hbase : base ≤ w.heap.size)
    (h : ∀ v' w', Rw w' base 41 s v' (R ++ [y]) → w.grownBy w' v.ownBlock → wpList Tryd.prog ops Q rest (a.put o.dst v') w') : wpList Tryd.prog ops Q (o :: rest) a w := by
  obtain ⟨i0, hi, hz0, hz1, hz2⟩ := info_parts wordInfo
  refine wpList_append_own w hgd sl x 33 ho base 41 i0 _ 4 40 Tryd.underlying33 hi hz0 hz1 hz2 rfl (by decide) v R.length (wCs s R) hs hown ⟨b, 0, none⟩ 1 1 (wC s y) hx rfl (fun j u hu => ?_) ?_ (by unfold maxLen; omega) (by omega) hbase (fun v' w' h2 h3 _ => ?_)
  · have := hc j u hu
    cases j with
    | zero => simpa [Addr.add] using this
    | succ j => simpa [Addr.add] using this
  · intro u hu
    simp [wC] at hu
    rcases hu with rfl | rfl | rfl | rfl <;> rfl
  · refine h v' w' ?_ h3
    unfold Rw
    rw [List.length_append, wCs_app, wCs_one]
    exact h2
theorem Rw.grow {w0 w w' : World} {base : Nat} {e : TypeId} {s : ByteArray} {v : Value} {R : List Wd} (h : Rw w base e s v R) (hb : Below w0.heap.size w0 w) (he : w0.heap.size ≤ base) (hg : w.grownBy w' v.ownBlock) : Below w0.heap.size w0 w' :=
  hb.grown hg hb.size (fun k hk => Nat.le_trans he (World.ownsRow.lt h k hk).1)
theorem X4.wc {w0 w : World} {b : Nat} {v0 v1 v2 v3 : Value} {s : ByteArray} {y : Wd} (h : X4 w0 w b v0 v1 v2 v3) (e : wC s y = [v0, v1, v2, v3]) : ∀ j u, (wC s y)[j]? = some u → w.cell? ⟨b, j, none⟩ = some u := by
  intro j u hu
  rw [e] at hu
  match j, hu with
  | 0, hu => simp at hu; rw [← hu]; exact h.c0
  | 1, hu => simp at hu; rw [← hu]; exact h.c1
  | 2, hu => simp at hu; rw [← hu]; exact h.c2
  | 3, hu => simp at hu; rw [← hu]; exact h.c3
  | j + 4, hu => simp at hu
/-- What a row of words reads. -/
structure Rd4 (w : World) (v : Value) (s : ByteArray) (R : List Wd) (a : Option Addr) (c b : Nat) : Prop where
  v : v = .slice a R.length c
  a : 0 < R.length → a = some ⟨b, 0, none⟩
  c0 : ∀ i x, R[i]? = some x → w.cell? ⟨b, i * 4, none⟩ = some (.int .i64 (x.1 : Nat))
  c1 : ∀ i x, R[i]? = some x → w.cell? ⟨b, i * 4 + 1, none⟩ = some (.string (s.extract x.2.2.2 (x.2.2.2 + x.2.1)))
  c2 : ∀ i x, R[i]? = some x → w.cell? ⟨b, i * 4 + 2, none⟩ = some (.int .i64 (x.2.2.1 : Nat))
  c3 : ∀ i x, R[i]? = some x → w.cell? ⟨b, i * 4 + 3, none⟩ = some (.int .i64 (x.2.2.2 : Nat))
theorem Rd4.of {w : World} {base : Nat} {e : TypeId} {s : ByteArray} {v : Value} {R : List Wd} (h : Rw w base e s v R) : ∃ a c b, Rd4 w v s R a c b := by
  rcases h.2 with ⟨h0, h1⟩ | ⟨g, cap, cur, hv, hb, hg, hn, hm, hs, ht⟩
  · have e : R = [] := List.eq_nil_of_length_eq_zero h1
    subst e
    exact ⟨none, 0, 0, h0, fun q => by simp at q, fun i x q => by simp at q, fun i x q => by simp at q, fun i x q => by simp at q, fun i x q => by simp at q⟩
  · have cell : ∀ (j : Nat) (u : Value), (wCs s R)[j]? = some u → w.cell? ⟨g, j, none⟩ = some u := fun j u hu => by
      have l := (List.getElem?_eq_some_iff.1 hu).1
      have l2 := h.1
      rw [← ht, List.getElem?_take_of_lt (by omega), Array.getElem?_toList] at hu
      simp [World.cell?, hg, hu]
    exact ⟨_, cap, g, hv, fun _ => rfl, fun i x q => cell _ _ ((wCs_at s R i x 0 q (by decide)).trans rfl), fun i x q => cell _ _ ((wCs_at s R i x 1 q (by decide)).trans rfl), fun i x q => cell _ _ ((wCs_at s R i x 2 q (by decide)).trans rfl), fun i x q => cell _ _ ((wCs_at s R i x 3 q (by decide)).trans rfl)⟩
end Go.Proofs.YtobolipjgkabhaaDoor
