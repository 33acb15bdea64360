/- What serves the walks over the parser's other parts. -/
import Derived.Test.YtobolipjgkabhaaDoorSg
import Derived.BigQuiet
import Derived.Deep.RegionHeld3
namespace Go.Proofs.YtobolipjgkabhaaDoor
open Go.RowKit
set_option linter.unusedVariables false
set_option linter.unusedSimpArgs false

theorem pa_new (w : World) (l : List ByteArray) : Pa (w.alloc (.cells (l.map Value.string).toArray 9)) w.heap.size l := by
  intro i s h
  simp [h]
theorem ne_all {ps : List ByteArray} (h : ps.all (fun s => !(eqB s ⟨#[]⟩)) = true) : ∀ s ∈ ps, s ≠ ⟨#[]⟩ := by
  intro s hs e
  have := List.all_eq_true.1 h s hs
  rw [e] at this
  revert this
  decide
theorem Nd.one {w : World} {S : Nat → Prop} {g c : Nat} {t : Tr} {sl : Value} (hs : S g) (hc : NC w g 0 t sl) (hk : Nd w S sl t.kids) : Nd w S (.slice (some ⟨g, 0, none⟩) 1 c) [t] :=
  .row g c [t] (fun _ => sl) hs (by simp) (fun i t' e => by
    cases i with
    | zero => simp at e; subst e; exact hc
    | succ i => simp at e) (fun i t' e => by
    cases i with
    | zero => simp at e; subst e; exact hk
    | succ i => simp at e)
theorem Nd.two {w : World} {S : Nat → Prop} {g c : Nat} {t u : Tr} {sl sm : Value} (hs : S g) (hc : NC w g 0 t sl) (hd : NC w g 6 u sm) (hk : Nd w S sl t.kids) (hl : Nd w S sm u.kids) : Nd w S (.slice (some ⟨g, 0, none⟩) 2 c) [t, u] :=
  .row g c [t, u] (fun i => if i = 0 then sl else sm) hs (by simp) (fun i t' e => by
    match i, e with
    | 0, e => simp at e; subst e; exact hc
    | 1, e => simp at e; subst e; exact hd
    | i + 2, e => simp at e) (fun i t' e => by
    match i, e with
    | 0, e => simp at e; subst e; exact hk
    | 1, e => simp at e; subst e; exact hl
    | i + 2, e => simp at e)
def turnR (op : ByteArray) (a : Nat) (r : Rs) : Rs := ⟨r.t.map fun t => .nd op ⟨#[]⟩ 0 0 a [t], r.l, r.o⟩
theorem turn_is (U : Ex) (op : ByteArray) (deep : Nat) (l : List Wo) (o : Option Nat) : turnF U op deep l o = turnR op (aw l) (U (deep + 1) l.tail (if 40 < deep + 1 then passO o l.tail else o)) := by
  unfold turnF turnR
  generalize U (deep + 1) l.tail (if 40 < deep + 1 then passO o l.tail else o) = r
  obtain ⟨t, l', o'⟩ := r
  cases t <;> rfl
/-- What a call of unary answers, for words fewer than N. -/
def UC (U : Ex) (N p b c : Nat) (ws : List Wo) : Prop := ∀ (w : World) (k deep : Nat) (o : Option Nat), Ps w p b c ws k o → KT w → ws.length - k < N → deep + (ws.length - k) ≤ 10000 → Calls Tryd.prog 78 #[.pointer (some ⟨p, 0, none⟩), .int .i64 (deep : Nat)] w fun e w' => Rp w w' p b c ws k e (U deep (ws.drop k) o)
end Go.Proofs.YtobolipjgkabhaaDoor
