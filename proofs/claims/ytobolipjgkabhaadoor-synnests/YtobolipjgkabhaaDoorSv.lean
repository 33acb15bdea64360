/- Bytes of a call's own, and what is written behind them: texts, bytes, numbers. -/
import Derived.Test.YtobolipjgkabhaaDoorSu
import Derived.Test.YtobolipjgkabhaaDoorSg
import Derived.Lib.AppendStr
import Derived.Lib.OthersKept
import Derived.Lib.BufferKept
namespace Go.Proofs.YtobolipjgkabhaaDoor
open Go.Shelf Go.RowKit
set_option linter.unusedVariables false
set_option linter.unusedSimpArgs false

/-- Bytes of the call's own: all blocks from B on are its own. -/
structure Ob (w : World) (B : Nat) (v : Value) (l : List UInt8) : Prop where
  own : w.ownsRow B 5 1 v l.length (Lib.byteCells l)
  ba : B ≤ w.heap.size
theorem Ob.nil (w : World) (B : Nat) (h : B ≤ w.heap.size) : Ob w B (.slice none 0 0) [] := ⟨World.ownsRow_nil _ _ _ _, h⟩
theorem Ob.next {w w' : World} {B : Nat} {v : Value} {l : List UInt8} (h : Ob w B v l) (hb : Below w.heap.size w w') : Ob w' B v l := by
  refine ⟨⟨h.own.1, ?_⟩, Nat.le_trans h.ba hb.size⟩
  rcases h.own.2 with hn | ⟨g, cap, cur, hv, hg, hk, rest⟩
  · exact .inl hn
  · refine .inr ⟨g, cap, cur, hv, hg, ?_, rest⟩
    rw [hb.block g (Array.getElem?_eq_some_iff.1 hk).1]
    exact hk
/-- What writing bytes leaves: nothing below B is changed, and nothing that is no row of bytes. -/
structure Wt (B : Nat) (w w' : World) : Prop where
  bl : Below B w w'
  ok : Lib.OthersKept 5 none w w'
theorem Wt.refl (B : Nat) (w : World) : Wt B w w := ⟨Below.refl _ _, Lib.OthersKept.refl _ _ _⟩
theorem Wt.trans {B : Nat} {a b c : World} (h : Wt B a b) (k : Wt B b c) : Wt B a c := ⟨h.bl.trans k.bl, h.ok.trans k.ok⟩
theorem Wt.next {B : Nat} {a b c : World} (h : Wt B a b) (hB : B ≤ b.heap.size) (k : Below b.heap.size b c) : Wt B a c := ⟨h.bl.trans (k.mono hB), h.ok.below k⟩
theorem Wt.of {B : Nat} {b c : World} (hB : B ≤ b.heap.size) (k : Below b.heap.size b c) : Wt B b c := (Wt.refl B b).next hB k
theorem Wt.grown {B : Nat} {w w' : World} {v : Value} {l : List UInt8} (h : Ob w B v l) (hg : w.grownBy w' v.ownBlock) : Wt B w w' :=
  ⟨(Below.refl B w).grown hg h.ba (fun k hk => (World.ownsRow.lt h.own k hk).1), fun k o hk _ ho => by
    rw [hg.block k (Array.getElem?_eq_some_iff.1 hk).1 (fun e => ?_), hk]
    rcases h.own.2 with ⟨hv, _⟩ | ⟨g, cap, cur, hv, _, hgk, _⟩
    · rw [hv] at e; cases e
    · rw [hv] at e
      injection e with e
      subst e
      rw [hgk] at hk
      injection hk with hk
      exact ho _ _ hk.symm⟩
theorem byteInfo : (Tryd.prog.info? 5).map (fun i => (i.zero, i.size, i.bytes)) = some (some (.int .u8 0), 1, 1) := by kernel_rfl
theorem bytes_app (l r : List UInt8) : Lib.byteCells (l ++ r) = Lib.byteCells l ++ Lib.byteCells r := by unfold Lib.byteCells; rw [List.map_append]
theorem wpList_addS {w : World} {ops : Array Oper} {rest : List Oper} {o : Oper} {a : Act} {Q : Exit → Act → World → Prop} (hgd : o.guard = none) (sl x : Operand)
    (ho : o.op = .call { callee := .builtin .append, args := #[sl, x], argTypes := #[42, 9] }) (B : Nat) (v : Value) (l : List UInt8) (s : ByteArray) (hs : a.eval sl = v) (hown : Ob w B v l) (hx : a.eval x = .string s) (hl : l.length + s.size ≤ 1000000000)
    (h : ∀ v' w', Ob w' B v' (l ++ s.data.toList) → Wt B w w' → wpList Tryd.prog ops Q rest (a.put o.dst v') w') : wpList Tryd.prog ops Q (o :: rest) a w := by
  obtain ⟨i0, hi, hz0, hz1, hz2⟩ := info_parts byteInfo
  refine Lib.wpList_append_own_string w hgd sl x 42 9 ho B 5 i0 Tryd.underlying42 Tryd.underlying9 hi hz0 hz1 hz2 v l.length (Lib.byteCells l) hs hown.own s hx (by unfold maxLen; omega) (by omega) hown.ba (fun v' w' h2 h3 _ => ?_)
  have hb := Wt.grown hown h3
  refine h v' w' ⟨?_, Nat.le_trans hown.ba hb.bl.size⟩ hb
  rw [List.length_append, bytes_app]
  exact h2
theorem wpList_addC {w : World} {ops : Array Oper} {rest : List Oper} {o : Oper} {a : Act} {Q : Exit → Act → World → Prop} (hgd : o.guard = none) (sl x : Operand)
    (ho : o.op = .call { callee := .builtin .append, args := #[sl, x], argTypes := #[42, 42] }) (B : Nat) (v : Value) (l : List UInt8) (ch : UInt8) (hs : a.eval sl = v) (hown : Ob w B v l) (g : Nat) (hx : a.eval x = .slice (some ⟨g, 0, none⟩) 1 1) (hc : w.cell? ⟨g, 0, none⟩ = some (.int .u8 ch.toNat)) (hl : l.length ≤ 1000000000)
    (h : ∀ v' w', Ob w' B v' (l ++ [ch]) → Wt B w w' → wpList Tryd.prog ops Q rest (a.put o.dst v') w') : wpList Tryd.prog ops Q (o :: rest) a w := by
  obtain ⟨i0, hi, hz0, hz1, hz2⟩ := info_parts byteInfo
  refine wpList_append_own w hgd sl x 42 ho B 5 i0 _ 1 1 Tryd.underlying42 hi hz0 hz1 hz2 rfl (by decide) v l.length (Lib.byteCells l) hs hown.own ⟨g, 0, none⟩ 1 1 [.int .u8 ch.toNat] hx rfl (fun j u hu => ?_) (fun u hu => ?_) (by unfold maxLen; omega) (by omega) hown.ba (fun v' w' h2 h3 _ => ?_)
  · cases j with
    | zero => simp at hu; subst hu; simpa [Addr.add] using hc
    | succ j => simp at hu
  · simp at hu; subst hu; rfl
  · have hb := Wt.grown hown h3
    refine h v' w' ⟨?_, Nat.le_trans hown.ba hb.bl.size⟩ hb
    rw [List.length_append, bytes_app]
    exact h2
/-- The table of powers of ten. -/
abbrev PT (B : Nat) (w : World) : Prop := Lib.TabBelow Tryd.prog B w "internal/strconv.uint64pow10" .u64 Lib.pow10Tab
theorem iappU (B u : Nat) (l : List UInt8) (v : Value) (w : World) (hu : u < 18446744073709551616) (h : Ob w B v l) (hl : l.length ≤ 1000000000) (hT : PT B w) :
    Calls Tryd.prog 62 #[v, .int .u64 (u : Nat), .int .i64 10] w fun e w' => ∃ v', e = .returned v' ∧ Ob w' B v' (l ++ Lib.decDigits u) ∧ Wt B w w' := by
  rcases Nat.lt_or_ge u 100 with c | c
  · refine Calls.mono (Any.internal_strconv_AppendUint_10_small laysU B l.length u c v (Lib.byteCells l) w h.own h.ba (by omega)) ?_
    rintro e w' ⟨v', rfl, o, b, k⟩
    exact ⟨v', rfl, ⟨by rw [List.length_append, bytes_app]; exact o, Nat.le_trans h.ba b.size⟩, b, k⟩
  · refine Calls.mono (Any.internal_strconv_AppendUint_10_big laysU B l.length u c hu v (Lib.byteCells l) w h.own h.ba (by omega) hT.here) ?_
    rintro e w' ⟨v', rfl, o, b, k⟩
    exact ⟨v', rfl, ⟨by rw [List.length_append, bytes_app]; exact o, Nat.le_trans h.ba b.size⟩, b, k⟩
theorem appU (B u : Nat) (l : List UInt8) (v : Value) (w : World) (hu : u < 18446744073709551616) (h : Ob w B v l) (hl : l.length ≤ 1000000000) (hT : PT B w) :
    Calls Tryd.prog 51 #[v, .int .u64 (u : Nat), .int .i64 10] w fun e w' => ∃ v', e = .returned v' ∧ Ob w' B v' (l ++ Lib.decDigits u) ∧ Wt B w w' := by
  have HC := hid (iappU B u l v w hu h hl hT)
  clear h hT
  go_enter Tryd.func51, Tryd.ntmps51
  go_wp2_with (go_at_call 62; with_reducible refine Calls.mono HC.out ?_; rintro e w' ⟨v', rfl, h1, h2⟩)
  go_ret
  exact ⟨v', rfl, h1, h2⟩
end Go.Proofs.YtobolipjgkabhaaDoor
