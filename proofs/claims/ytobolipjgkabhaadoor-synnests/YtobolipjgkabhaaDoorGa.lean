/- Library functions of strconv and strings, at this program's numbers. Bytes of a call's own, and what is written behind them: texts, bytes, numbers. The walks over sign, boolText and decimal. The walk over showLit. -/
import Derived.Test.YtobolipjgkabhaaDoorSa
import Derived.Shelf.Strconv.AppendUint10
import Derived.Shelf.Strconv.AppendIntPublic10
import Derived.Shelf.Strings.Count
import Derived.Shelf.Strings.Search3
import Derived.KernelRfl
import Derived.Test.YtobolipjgkabhaaDoorSg
import Derived.Lib.AppendStr
import Derived.Lib.OthersKept
import Derived.Lib.BufferKept
import Derived.Laws.Concat
namespace Go.Proofs.YtobolipjgkabhaaDoor
open Go.Shelf Go.RowKit
set_option linter.unusedVariables false
set_option linter.unusedSimpArgs false

def renU : Ren := ⟨fun | 129 => 81 | 283 => 68 | 284 => 69 | 285 => 70 | 286 => 71 | 288 => 62 | 317 => 80 | 318 => 82 | 319 => 83 | 320 => 84 | 337 => 89 | 338 => 90 | n => n, fun | 0 => 0 | 3 => 3 | 4 => 4 | 5 => 5 | 9 => 9 | 20 => 20 | 37 => 42 | 46 => 93 | 51 => 96 | 53 => 63 | 171 => 88 | 173 => 91 | 212 => 95 | 213 => 97 | 232 => 102 | 233 => 103 | n => n, fun | 17 => 3 | 18 => 4 | 19 => 5 | n => n⟩
theorem laysU : LaysM.n288 Tryd.prog renU :=
  { mixed := by kernel_rfl
    f129 := by kernel_rfl
    f283 := by kernel_rfl
    f284 := by kernel_rfl
    f285 := by kernel_rfl
    f286 := by kernel_rfl
    f288 := by kernel_rfl
    f317 := by kernel_rfl
    f318 := by kernel_rfl
    f319 := by kernel_rfl
    f320 := by kernel_rfl
    f337 := by kernel_rfl
    f338 := by kernel_rfl
    t0 := by kernel_rfl
    a0 := fun _ => by kernel_rfl
    z0 := fun _ => by kernel_rfl
    v0 := fun _ => by kernel_rfl
    t3 := by kernel_rfl
    a3 := fun _ => by kernel_rfl
    z3 := fun _ => by kernel_rfl
    v3 := fun _ => by kernel_rfl
    t4 := by kernel_rfl
    a4 := fun _ => by kernel_rfl
    z4 := fun _ => by kernel_rfl
    v4 := fun _ => by kernel_rfl
    t5 := by kernel_rfl
    a5 := fun _ => by kernel_rfl
    z5 := fun _ => by kernel_rfl
    v5 := fun _ => by kernel_rfl
    t9 := by kernel_rfl
    a9 := fun _ => by kernel_rfl
    z9 := fun _ => by kernel_rfl
    v9 := fun _ => by kernel_rfl
    t20 := by kernel_rfl
    a20 := fun _ => by kernel_rfl
    z20 := fun _ => by kernel_rfl
    v20 := fun _ => by kernel_rfl
    t37 := by kernel_rfl
    a37 := fun _ => by kernel_rfl
    z37 := fun _ => by kernel_rfl
    v37 := fun _ => by kernel_rfl
    t46 := by kernel_rfl
    a46 := fun _ => by kernel_rfl
    z46 := fun _ => by kernel_rfl
    v46 := fun _ => by kernel_rfl
    t51 := by kernel_rfl
    a51 := fun _ => by kernel_rfl
    z51 := fun _ => by kernel_rfl
    v51 := fun _ => by kernel_rfl
    t53 := by kernel_rfl
    a53 := fun _ => by kernel_rfl
    z53 := fun _ => by kernel_rfl
    v53 := fun _ => by kernel_rfl
    t171 := by kernel_rfl
    a171 := fun _ => by kernel_rfl
    z171 := fun _ => by kernel_rfl
    v171 := fun _ => by kernel_rfl
    t173 := by kernel_rfl
    a173 := fun _ => by kernel_rfl
    z173 := fun _ => by kernel_rfl
    v173 := fun _ => by kernel_rfl
    t212 := by kernel_rfl
    a212 := fun _ => by kernel_rfl
    z212 := fun _ => by kernel_rfl
    v212 := fun _ => by kernel_rfl
    t213 := by kernel_rfl
    a213 := fun _ => by kernel_rfl
    z213 := fun _ => by kernel_rfl
    t232 := by kernel_rfl
    a232 := fun _ => by kernel_rfl
    z232 := fun _ => by kernel_rfl
    v232 := fun _ => by kernel_rfl
    t233 := by kernel_rfl
    a233 := fun _ => by kernel_rfl
    z233 := fun _ => by kernel_rfl
    v233 := fun _ => by kernel_rfl
    g17 := by kernel_rfl
    g18 := by kernel_rfl
    g19 := by kernel_rfl
    i0 := by kernel_rfl
    i3 := by kernel_rfl
    i4 := by kernel_rfl
    i5 := by kernel_rfl
    i9 := by kernel_rfl
    i20 := by kernel_rfl
    i37 := by kernel_rfl
    i46 := by kernel_rfl
    i51 := by kernel_rfl
    i53 := by kernel_rfl
    i171 := by kernel_rfl
    i173 := by kernel_rfl
    i212 := by kernel_rfl
    i232 := by kernel_rfl
    i233 := by kernel_rfl
    m17 := by kernel_rfl
    m18 := by kernel_rfl
    m19 := by kernel_rfl }
def renI : Ren := ⟨fun | 129 => 81 | 176 => 35 | 249 => 50 | 283 => 68 | 284 => 69 | 285 => 70 | 286 => 71 | 288 => 62 | 317 => 80 | 318 => 82 | 319 => 83 | 320 => 84 | 337 => 89 | 338 => 90 | n => n, fun | 0 => 0 | 2 => 2 | 3 => 3 | 4 => 4 | 5 => 5 | 9 => 9 | 20 => 20 | 37 => 42 | 46 => 93 | 51 => 96 | 53 => 63 | 171 => 88 | 173 => 91 | 212 => 95 | 213 => 97 | 232 => 102 | 233 => 103 | n => n, fun | 17 => 3 | 18 => 4 | 19 => 5 | n => n⟩
theorem laysI : LaysM.n176 Tryd.prog renI :=
  { mixed := by kernel_rfl
    f129 := by kernel_rfl
    f176 := by kernel_rfl
    f249 := by kernel_rfl
    f283 := by kernel_rfl
    f284 := by kernel_rfl
    f285 := by kernel_rfl
    f286 := by kernel_rfl
    f288 := by kernel_rfl
    f317 := by kernel_rfl
    f318 := by kernel_rfl
    f319 := by kernel_rfl
    f320 := by kernel_rfl
    f337 := by kernel_rfl
    f338 := by kernel_rfl
    t0 := by kernel_rfl
    a0 := fun _ => by kernel_rfl
    z0 := fun _ => by kernel_rfl
    v0 := fun _ => by kernel_rfl
    t2 := by kernel_rfl
    a2 := fun _ => by kernel_rfl
    z2 := fun _ => by kernel_rfl
    v2 := fun _ => by kernel_rfl
    t3 := by kernel_rfl
    a3 := fun _ => by kernel_rfl
    z3 := fun _ => by kernel_rfl
    v3 := fun _ => by kernel_rfl
    t4 := by kernel_rfl
    a4 := fun _ => by kernel_rfl
    z4 := fun _ => by kernel_rfl
    v4 := fun _ => by kernel_rfl
    t5 := by kernel_rfl
    a5 := fun _ => by kernel_rfl
    z5 := fun _ => by kernel_rfl
    v5 := fun _ => by kernel_rfl
    t9 := by kernel_rfl
    a9 := fun _ => by kernel_rfl
    z9 := fun _ => by kernel_rfl
    v9 := fun _ => by kernel_rfl
    t20 := by kernel_rfl
    a20 := fun _ => by kernel_rfl
    z20 := fun _ => by kernel_rfl
    v20 := fun _ => by kernel_rfl
    t37 := by kernel_rfl
    a37 := fun _ => by kernel_rfl
    z37 := fun _ => by kernel_rfl
    v37 := fun _ => by kernel_rfl
    t46 := by kernel_rfl
    a46 := fun _ => by kernel_rfl
    z46 := fun _ => by kernel_rfl
    v46 := fun _ => by kernel_rfl
    t51 := by kernel_rfl
    a51 := fun _ => by kernel_rfl
    z51 := fun _ => by kernel_rfl
    v51 := fun _ => by kernel_rfl
    t53 := by kernel_rfl
    a53 := fun _ => by kernel_rfl
    z53 := fun _ => by kernel_rfl
    v53 := fun _ => by kernel_rfl
    t171 := by kernel_rfl
    a171 := fun _ => by kernel_rfl
    z171 := fun _ => by kernel_rfl
    v171 := fun _ => by kernel_rfl
    t173 := by kernel_rfl
    a173 := fun _ => by kernel_rfl
    z173 := fun _ => by kernel_rfl
    v173 := fun _ => by kernel_rfl
    t212 := by kernel_rfl
    a212 := fun _ => by kernel_rfl
    z212 := fun _ => by kernel_rfl
    v212 := fun _ => by kernel_rfl
    t213 := by kernel_rfl
    a213 := fun _ => by kernel_rfl
    z213 := fun _ => by kernel_rfl
    t232 := by kernel_rfl
    a232 := fun _ => by kernel_rfl
    z232 := fun _ => by kernel_rfl
    v232 := fun _ => by kernel_rfl
    t233 := by kernel_rfl
    a233 := fun _ => by kernel_rfl
    z233 := fun _ => by kernel_rfl
    v233 := fun _ => by kernel_rfl
    g17 := by kernel_rfl
    g18 := by kernel_rfl
    g19 := by kernel_rfl
    i0 := by kernel_rfl
    i2 := by kernel_rfl
    i3 := by kernel_rfl
    i4 := by kernel_rfl
    i5 := by kernel_rfl
    i9 := by kernel_rfl
    i20 := by kernel_rfl
    i37 := by kernel_rfl
    i46 := by kernel_rfl
    i51 := by kernel_rfl
    i53 := by kernel_rfl
    i171 := by kernel_rfl
    i173 := by kernel_rfl
    i212 := by kernel_rfl
    i232 := by kernel_rfl
    i233 := by kernel_rfl
    m17 := by kernel_rfl
    m18 := by kernel_rfl
    m19 := by kernel_rfl }
def renC : Ren := ⟨fun | 138 => 39 | 143 => 56 | 195 => 54 | 217 => 74 | 218 => 55 | 219 => 66 | 224 => 76 | 225 => 75 | 266 => 85 | 267 => 77 | 314 => 86 | n => n, fun | 0 => 0 | 3 => 3 | 4 => 4 | 5 => 5 | 9 => 9 | 46 => 93 | 51 => 96 | 146 => 99 | n => n, fun | 1 => 2 | n => n⟩
theorem laysC : Lays.n138 Tryd.prog renC :=
  { mixed := by kernel_rfl
    f138 := by kernel_rfl
    f143 := by kernel_rfl
    f195 := by kernel_rfl
    f217 := by kernel_rfl
    f218 := by kernel_rfl
    f219 := by kernel_rfl
    f224 := by kernel_rfl
    f225 := by kernel_rfl
    f266 := by kernel_rfl
    f267 := by kernel_rfl
    f314 := by kernel_rfl
    t0 := by kernel_rfl
    a0 := fun _ => by kernel_rfl
    z0 := fun _ => by kernel_rfl
    v0 := fun _ => by kernel_rfl
    t3 := by kernel_rfl
    a3 := fun _ => by kernel_rfl
    z3 := fun _ => by kernel_rfl
    v3 := fun _ => by kernel_rfl
    t4 := by kernel_rfl
    a4 := fun _ => by kernel_rfl
    z4 := fun _ => by kernel_rfl
    v4 := fun _ => by kernel_rfl
    t5 := by kernel_rfl
    a5 := fun _ => by kernel_rfl
    z5 := fun _ => by kernel_rfl
    v5 := fun _ => by kernel_rfl
    t9 := by kernel_rfl
    a9 := fun _ => by kernel_rfl
    z9 := fun _ => by kernel_rfl
    v9 := fun _ => by kernel_rfl
    t46 := by kernel_rfl
    a46 := fun _ => by kernel_rfl
    z46 := fun _ => by kernel_rfl
    v46 := fun _ => by kernel_rfl
    t51 := by kernel_rfl
    a51 := fun _ => by kernel_rfl
    z51 := fun _ => by kernel_rfl
    v51 := fun _ => by kernel_rfl
    t146 := by kernel_rfl
    a146 := fun _ => by kernel_rfl
    z146 := fun _ => by kernel_rfl
    v146 := fun _ => by kernel_rfl
    g1 := by kernel_rfl }
def renT : Ren := ⟨fun | 143 => 56 | 144 => 40 | 217 => 74 | 219 => 66 | 224 => 76 | 225 => 75 | 266 => 85 | 267 => 77 | 314 => 86 | n => n, fun | 3 => 3 | 4 => 4 | 5 => 5 | 9 => 9 | 46 => 93 | 51 => 96 | 146 => 99 | n => n, fun | 1 => 2 | n => n⟩
theorem laysT : Lays.n144 Tryd.prog renT :=
  { mixed := by kernel_rfl
    f143 := by kernel_rfl
    f144 := by kernel_rfl
    f217 := by kernel_rfl
    f219 := by kernel_rfl
    f224 := by kernel_rfl
    f225 := by kernel_rfl
    f266 := by kernel_rfl
    f267 := by kernel_rfl
    f314 := by kernel_rfl
    t3 := by kernel_rfl
    a3 := fun _ => by kernel_rfl
    z3 := fun _ => by kernel_rfl
    v3 := fun _ => by kernel_rfl
    t4 := by kernel_rfl
    a4 := fun _ => by kernel_rfl
    z4 := fun _ => by kernel_rfl
    v4 := fun _ => by kernel_rfl
    t5 := by kernel_rfl
    a5 := fun _ => by kernel_rfl
    z5 := fun _ => by kernel_rfl
    v5 := fun _ => by kernel_rfl
    t9 := by kernel_rfl
    a9 := fun _ => by kernel_rfl
    z9 := fun _ => by kernel_rfl
    v9 := fun _ => by kernel_rfl
    t46 := by kernel_rfl
    a46 := fun _ => by kernel_rfl
    z46 := fun _ => by kernel_rfl
    v46 := fun _ => by kernel_rfl
    t51 := by kernel_rfl
    a51 := fun _ => by kernel_rfl
    z51 := fun _ => by kernel_rfl
    v51 := fun _ => by kernel_rfl
    t146 := by kernel_rfl
    a146 := fun _ => by kernel_rfl
    z146 := fun _ => by kernel_rfl
    v146 := fun _ => by kernel_rfl
    g1 := by kernel_rfl }
end Go.Proofs.YtobolipjgkabhaaDoor

namespace Go.Proofs.YtobolipjgkabhaaDoor
open Go.Shelf Go.RowKit
set_option linter.unusedVariables false
set_option linter.unusedSimpArgs false

/-- Bytes of the call's own: all blocks from B on are its own. -/
structure Ob (w : World) (B : Nat) (v : Value) (l : List UInt8) : Prop where
  own : w.ownsRow B 5 1 v l.length (Lib.byteCells l)
  ba : B ≤ w.heap.size
theorem Ob.nil (w : World) (B : Nat) (h : B ≤ w.heap.size) : Ob w B (.slice none 0 0) [] := ⟨World.ownsRow_nil _ _ _ _, h⟩
theorem Ob.next {w w' : World} {B : Nat} {v : Value} {l : List UInt8} (h : Ob w B v l) (hb : Below w.heap.size w w') : Ob w' B v l := by
  refine ⟨⟨h.own.1, ?_⟩, Nat.le_trans h.ba hb.size⟩
  rcases h.own.2 with hn | ⟨g, cap, cur, hv, hg, hk, rest⟩
  · exact .inl hn
  · refine .inr ⟨g, cap, cur, hv, hg, ?_, rest⟩
    rw [hb.block g (Array.getElem?_eq_some_iff.1 hk).1]
    exact hk
/-- What writing bytes leaves: nothing below B is changed, and nothing that is no row of bytes. -/
structure Wt (B : Nat) (w w' : World) : Prop where
  bl : Below B w w'
  ok : Lib.OthersKept 5 none w w'
theorem Wt.refl (B : Nat) (w : World) : Wt B w w := ⟨Below.refl _ _, Lib.OthersKept.refl _ _ _⟩
theorem Wt.trans {B : Nat} {a b c : World} (h : Wt B a b) (k : Wt B b c) : Wt B a c := ⟨h.bl.trans k.bl, h.ok.trans k.ok⟩
theorem Wt.next {B : Nat} {a b c : World} (h : Wt B a b) (hB : B ≤ b.heap.size) (k : Below b.heap.size b c) : Wt B a c := ⟨h.bl.trans (k.mono hB), h.ok.below k⟩
theorem Wt.of {B : Nat} {b c : World} (hB : B ≤ b.heap.size) (k : Below b.heap.size b c) : Wt B b c := (Wt.refl B b).next hB k
theorem Wt.grown {B : Nat} {w w' : World} {v : Value} {l : List UInt8} (h : Ob w B v l) (hg : w.grownBy w' v.ownBlock) : Wt B w w' :=
  ⟨(Below.refl B w).grown hg h.ba (fun k hk => (World.ownsRow.lt h.own k hk).1), fun k o hk _ ho => by
    rw [hg.block k (Array.getElem?_eq_some_iff.1 hk).1 (fun e => ?_), hk]
    rcases h.own.2 with ⟨hv, _⟩ | ⟨g, cap, cur, hv, _, hgk, _⟩
    · rw [hv] at e; cases e
    · rw [hv] at e
      injection e with e
      subst e
      rw [hgk] at hk
      injection hk with hk
      exact ho _ _ hk.symm⟩
theorem byteInfo : (Tryd.prog.info? 5).map (fun i => (i.zero, i.size, i.bytes)) = some (some (.int .u8 0), 1, 1) := by kernel_rfl
theorem bytes_app (l r : List UInt8) : Lib.byteCells (l ++ r) = Lib.byteCells l ++ Lib.byteCells r := by unfold Lib.byteCells; rw [List.map_append]
theorem wpList_addS {w : World} {ops : Array Oper} {rest : List Oper} {o : Oper} {a : Act} {Q : Exit → Act → World → Prop} (hgd : o.guard = none) (sl x : Operand)
    (ho : o.op = .call { callee := .builtin .append, args := #[sl, x], argTypes := #[42, 9] }) (B : Nat) (v : Value) (l : List UInt8) (s : ByteArray) (hs : a.eval sl = v) (hown : Ob w B v l) (hx : a.eval x = .string s) (hl : l.length + s.size ≤ 1000000000)
    (h : ∀ v' w', Ob w' B v' (l ++ s.data.toList) → Wt B w w' → wpList Tryd.prog ops Q rest (a.put o.dst v') w') : wpList Tryd.prog ops Q (o :: rest) a w := by
  obtain ⟨i0, hi, hz0, hz1, hz2⟩ := info_parts byteInfo
  refine Lib.wpList_append_own_string w hgd sl x 42 9 ho B 5 i0 Tryd.underlying42 Tryd.underlying9 hi hz0 hz1 hz2 v l.length (Lib.byteCells l) hs hown.own s hx (by unfold maxLen; omega) (by omega) hown.ba (fun v' w' h2 h3 _ => ?_)
  have hb := Wt.grown hown h3
  refine h v' w' ⟨?_, Nat.le_trans hown.ba hb.bl.size⟩ hb
  rw [List.length_append, bytes_app]
  exact h2
theorem wpList_addC {w : World} {ops : Array Oper} {rest : List Oper} {o : Oper} {a : Act} {Q : Exit → Act → World → Prop} (hgd : o.guard = none) (sl x : Operand)
    (ho : o.op = .call { callee := .builtin .append, args := #[sl, x], argTypes := #[42, 42] }) (B : Nat) (v : Value) (l : List UInt8) (ch : UInt8) (hs : a.eval sl = v) (hown : Ob w B v l) (g : Nat) (hx : a.eval x = .slice (some ⟨g, 0, none⟩) 1 1) (hc : w.cell? ⟨g, 0, none⟩ = some (.int .u8 ch.toNat)) (hl : l.length ≤ 1000000000)
    (h : ∀ v' w', Ob w' B v' (l ++ [ch]) → Wt B w w' → wpList Tryd.prog ops Q rest (a.put o.dst v') w') : wpList Tryd.prog ops Q (o :: rest) a w := by
  obtain ⟨i0, hi, hz0, hz1, hz2⟩ := info_parts byteInfo
  refine wpList_append_own w hgd sl x 42 ho B 5 i0 _ 1 1 Tryd.underlying42 hi hz0 hz1 hz2 rfl (by decide) v l.length (Lib.byteCells l) hs hown.own ⟨g, 0, none⟩ 1 1 [.int .u8 ch.toNat] hx rfl (fun j u hu => ?_) (fun u hu => ?_) (by unfold maxLen; omega) (by omega) hown.ba (fun v' w' h2 h3 _ => ?_)
  · cases j with
    | zero => simp at hu; subst hu; simpa [Addr.add] using hc
    | succ j => simp at hu
  · simp at hu; subst hu; rfl
  · have hb := Wt.grown hown h3
    refine h v' w' ⟨?_, Nat.le_trans hown.ba hb.bl.size⟩ hb
    rw [List.length_append, bytes_app]
    exact h2
/-- The table of powers of ten. -/
abbrev PT (B : Nat) (w : World) : Prop := Lib.TabBelow Tryd.prog B w "internal/strconv.uint64pow10" .u64 Lib.pow10Tab
theorem iappU (B u : Nat) (l : List UInt8) (v : Value) (w : World) (hu : u < 18446744073709551616) (h : Ob w B v l) (hl : l.length ≤ 1000000000) (hT : PT B w) :
    Calls Tryd.prog 62 #[v, .int .u64 (u : Nat), .int .i64 10] w fun e w' => ∃ v', e = .returned v' ∧ Ob w' B v' (l ++ Lib.decDigits u) ∧ Wt B w w' := by
  rcases Nat.lt_or_ge u 100 with c | c
  · refine Calls.mono (Any.internal_strconv_AppendUint_10_small laysU B l.length u c v (Lib.byteCells l) w h.own h.ba (by omega)) ?_
    rintro e w' ⟨v', rfl, o, b, k⟩
    exact ⟨v', rfl, ⟨by rw [List.length_append, bytes_app]; exact o, Nat.le_trans h.ba b.size⟩, b, k⟩
  · refine Calls.mono (Any.internal_strconv_AppendUint_10_big laysU B l.length u c hu v (Lib.byteCells l) w h.own h.ba (by omega) hT.here) ?_
    rintro e w' ⟨v', rfl, o, b, k⟩
    exact ⟨v', rfl, ⟨by rw [List.length_append, bytes_app]; exact o, Nat.le_trans h.ba b.size⟩, b, k⟩
theorem appU (B u : Nat) (l : List UInt8) (v : Value) (w : World) (hu : u < 18446744073709551616) (h : Ob w B v l) (hl : l.length ≤ 1000000000) (hT : PT B w) :
    Calls Tryd.prog 51 #[v, .int .u64 (u : Nat), .int .i64 10] w fun e w' => ∃ v', e = .returned v' ∧ Ob w' B v' (l ++ Lib.decDigits u) ∧ Wt B w w' := by
  have HC := hid (iappU B u l v w hu h hl hT)
  clear h hT
  go_enter Tryd.func51, Tryd.ntmps51
  go_wp2_with (go_at_call 62; with_reducible refine Calls.mono HC.out ?_; rintro e w' ⟨v', rfl, h1, h2⟩)
  go_ret
  exact ⟨v', rfl, h1, h2⟩
end Go.Proofs.YtobolipjgkabhaaDoor

namespace Go.Proofs.YtobolipjgkabhaaDoor
open Go.Shelf Go.RowKit
set_option linter.unusedVariables false
set_option linter.unusedSimpArgs false

theorem Ob.at_ {w : World} {B : Nat} {v : Value} {l : List UInt8} (h : Ob w B v l) (h0 : 0 < l.length) : ∃ g c, v = .slice (some ⟨g, 0, none⟩) l.length c ∧ B ≤ g ∧ (∀ i x, l[i]? = some x → w.cell? ⟨g, i, none⟩ = some (.int .u8 x.toNat)) ∧ ∀ i, w.frozen? ⟨g, i, none⟩ = false := by
  rcases h.own.2 with ⟨_, hn⟩ | ⟨g, cap, cur, hv, hg, hk, h1, h2, h3, h4⟩
  · omega
  · refine ⟨g, cap, hv, hg, fun i x hx => ?_, fun i => by simp [World.frozen?, hk]⟩
    have hu : (Lib.byteCells l)[i]? = some (.int .u8 x.toNat) := by unfold Lib.byteCells; rw [List.getElem?_map, hx]; rfl
    have l1 := (List.getElem?_eq_some_iff.1 hx).1
    rw [← h4, List.getElem?_take_of_lt (by omega), Array.getElem?_toList] at hu
    simp [World.cell?, hk, hu]
theorem Ob.set {w : World} {B g c : Nat} {l : List UInt8} (h : Ob w B (.slice (some ⟨g, 0, none⟩) l.length c) l) (i : Nat) (hi : i < l.length) (x : UInt8) : Ob (w.setCell ⟨g, i, none⟩ (.int .u8 x.toNat)) B (.slice (some ⟨g, 0, none⟩) l.length c) (l.set i x) := by
  rcases h.own.2 with ⟨hv, hn⟩ | ⟨g', cap, cur, hv, hg, hk, h1, h2, h3, h4⟩
  · cases hv
  · injection hv with e1 e2 e3
    injection e1 with e1
    injection e1 with e1
    subst e1 e3
    refine ⟨⟨by simp [Lib.byteCells], .inr ⟨g, c, cur.setIfInBounds i (.int .u8 x.toNat), by simp, hg, ?_, by simpa using h1, h2, by simpa using h3, ?_⟩⟩, by simpa using h.ba⟩
    · simp [World.setCell, Array.getElem?_modify, hk]
    · have := h4
      unfold Lib.byteCells at this ⊢
      rw [List.map_set, ← this]
      simp [List.take_set]
theorem Ob.wt {w0 w : World} {B g c : Nat} {l : List UInt8} (h : Ob w B (.slice (some ⟨g, 0, none⟩) l.length c) l) (k : Wt B w0 w) (i : Nat) (x : UInt8) : Wt B w0 (w.setCell ⟨g, i, none⟩ (.int .u8 x.toNat)) := by
  rcases h.own.2 with ⟨hv, hn⟩ | ⟨g', cap, cur, hv, hg, hk, h1, h2, h3, h4⟩
  · cases hv
  · injection hv with e1 e2 e3
    injection e1 with e1
    injection e1 with e1
    subst e1 e3
    refine ⟨k.bl.setCell (p := ⟨g, i, none⟩) hg _, fun j o hj hb ho => ?_⟩
    have := k.ok j o hj hb ho
    by_cases e : j = g
    · subst e
      rw [hk] at this
      injection this with this
      exact absurd this.symm (ho _ _)
    · rw [Below.heap_setCell w ⟨g, i, none⟩ _ j e]
      exact this
theorem sign_pos (n : Nat) (w : World) : Calls Tryd.prog 37 #[.int .i64 (n : Nat)] w fun e w' => e = .returned (.string ⟨#[]⟩) ∧ w = w' := by
  have h : ¬ (n : Int) < 0 := by omega
  go_enter Tryd.func37, Tryd.ntmps37
  go_wp2
  go_ret
  exact ⟨rfl, rfl⟩
theorem boolText_any (n : Nat) (w : World) (h : n ≤ 1) : Calls Tryd.prog 34 #[.int .i64 (n : Nat)] w fun e w' => e = .returned (.string (if n = 1 then ⟨#[116, 114, 117, 101]⟩ else ⟨#[102, 97, 108, 115, 101]⟩)) ∧ w = w' := by
  rcases Nat.lt_or_ge n 1 with c | c
  · obtain rfl : n = 0 := by omega
    go_enter Tryd.func34, Tryd.ntmps34
    go_wp2
    go_ret
    exact ⟨rfl, rfl⟩
  · obtain rfl : n = 1 := by omega
    go_enter Tryd.func34, Tryd.ntmps34
    go_wp2
    go_ret
    exact ⟨rfl, rfl⟩
/-- A number in units of so many, with a dot. -/
def decU (unit n : Nat) : List UInt8 := Lib.decDigits (n / unit) ++ (Lib.decDigits (unit + n % unit)).set 0 46
theorem dd_pos (u : Nat) : 0 < (Lib.decDigits u).length := by
  unfold Lib.decDigits
  split
  · simp
  · simp
theorem dd_len (u : Nat) (h : u < 100000000000000000000) : (Lib.decDigits u).length ≤ 20 := by
  have key : ∀ k u, u < 10 ^ (k + 1) → (Lib.decDigits u).length ≤ k + 1 := by
    intro k
    induction k with
    | zero => intro u h; unfold Lib.decDigits; rw [dif_pos (by simpa using h)]; simp
    | succ k ih =>
      intro u h
      unfold Lib.decDigits
      split
      · simp
      · rw [List.length_append]
        have := ih (u / 10) (by rw [Nat.div_lt_iff_lt_mul (by decide)]; rw [Nat.pow_succ] at h; exact h)
        simp
        omega
  exact key 19 u (by simpa using h)
set_option maxHeartbeats 2000000 in
theorem decimal_any (B n unit : Nat) (l : List UInt8) (v : Value) (w : World) (hn : n < 9223372036854775808) (h1 : 1 ≤ unit) (h2 : unit ≤ 1000000) (h : Ob w B v l) (hl : l.length ≤ 900000000) (hT : PT B w) :
    Calls Tryd.prog 36 #[v, .int .i64 (n : Nat), .int .u64 (unit : Nat)] w fun e w' => ∃ v', e = .returned v' ∧ Ob w' B v' (l ++ decU unit n) ∧ Wt B w w' := by
  obtain ⟨q, hq⟩ : ∃ q, n / unit = q := ⟨_, rfl⟩
  obtain ⟨r, hr⟩ : ∃ r, n % unit = r := ⟨_, rfl⟩
  have q1 : q ≤ n := by rw [← hq]; exact Nat.div_le_self _ _
  have r1 : r < unit := by rw [← hr]; exact Nat.mod_lt _ (by omega)
  have e1 : (n : Int) / (unit : Int) = (q : Int) := by rw [← hq]; rfl
  have e2 : (n : Int) % (unit : Int) = (r : Int) := by rw [← hr]; rfl
  have e1' : (n : Int).tdiv (unit : Int) = (q : Int) := by rw [Int.tdiv_eq_ediv_of_nonneg (by omega)]; exact e1
  have e2' : (n : Int).tmod (unit : Int) = (r : Int) := by rw [Int.tmod_eq_emod_of_nonneg (by omega)]; exact e2
  have f1 : IntKind.u64.wrap (n : Int) = (n : Int) := by go_arith
  have f2 : IntKind.u64.wrap (q : Int) = (q : Int) := by go_arith
  have f3 : IntKind.u64.wrap (r : Int) = (r : Int) := by go_arith
  have f4 : IntKind.u64.wrap ((unit : Int) + (r : Int)) = (unit : Int) + (r : Int) := by go_arith
  have n0 : ¬ (n : Int) < 0 := by omega
  have u0 : (unit : Int) ≠ 0 := by omega
  have PD := hid (show decU unit n = Lib.decDigits q ++ (Lib.decDigits (unit + r)).set 0 46 from by unfold decU; rw [hq, hr])
  have d1 := dd_len q (by omega)
  have d2 := dd_len (unit + r) (by omega)
  have d3 := dd_pos q
  have d4 := dd_pos (unit + r)
  have HC := hid (appU B q l v w (by omega) h (by omega) hT)
  have TH := hid hT
  clear h hT hq hr
  go_enter Tryd.func36, Tryd.ntmps36
  go_upto_region 5 with (go_at_call 51; with_reducible refine Calls.mono HC.out ?_; rintro e w1 ⟨v1, rfl, o1, b1⟩; have O1 := hid o1; have B1 := hid b1; clear o1 b1)
  have A1 := O1.out.at_ (by rw [List.length_append]; omega)
  obtain ⟨g1, c1, rfl, _, _, _⟩ := A1
  have HC2 := hid (show Calls Tryd.prog 51 #[.slice (some ⟨g1, 0, none⟩) (l ++ Lib.decDigits q).length c1, .int .u64 ((unit : Int) + (r : Int)), .int .i64 10] w1 _ from appU B (unit + r) (l ++ Lib.decDigits q) _ w1 (by omega) O1.out (by rw [List.length_append]; omega) (TH.out.on B1.out.bl))
  generalize hL : l ++ Lib.decDigits q = L at *
  have lL : L.length ≤ 900000020 := by rw [← hL, List.length_append]; omega
  have HL := hid hL
  clear hL
  go_upto_region 7 with (go_at_call 51; with_reducible refine Calls.mono HC2.out ?_; rintro e w2 ⟨v2, rfl, o2, b2⟩; have O2 := hid o2; have B2 := hid b2; clear o2 b2)
  have A2 := O2.out.at_ (by rw [List.length_append]; omega)
  obtain ⟨g2, c2, rfl, gB, cl, fz⟩ := A2
  have z1 := fz L.length
  obtain ⟨x, hx⟩ : ∃ x, (L ++ Lib.decDigits (unit + r))[L.length]? = some x := ⟨_, List.getElem?_eq_getElem (by rw [List.length_append]; omega)⟩
  have z2 := cl L.length x hx
  have O3 := hid (O2.out.set L.length (by rw [List.length_append]; omega) 46)
  have B3 := hid (O2.out.wt (B1.out.trans B2.out) L.length (46 : UInt8))
  have lt : (L.length : Int) < ((L ++ Lib.decDigits (unit + r)).length : Int) := by rw [List.length_append]; omega
  have FE := hid (show (L ++ Lib.decDigits (unit + r)).set L.length 46 = l ++ decU unit n from by rw [List.set_append_right _ _ (Nat.le_refl _), Nat.sub_self, PD.out, ← HL.out, List.append_assoc])
  rw [FE.out] at O3
  clear fz cl hx FE
  generalize (L ++ Lib.decDigits (unit + r)).length = M at *
  generalize L.length = m at *
  go_wp2_with fail
  go_ret
  exact ⟨_, rfl, O3.out, B3.out⟩
end Go.Proofs.YtobolipjgkabhaaDoor

namespace Go.Proofs.YtobolipjgkabhaaDoor
open Go.Shelf Go.RowKit
set_option linter.unusedVariables false
set_option linter.unusedSimpArgs false

theorem wp_addS {w : World} {o : Oper} {a : Act} {K : Act → World → Prop} {Q : Exit → Act → World → Prop} (sl x : Operand)
    (ho : o.op = .call { callee := .builtin .append, args := #[sl, x], argTypes := #[42, 9] }) (B : Nat) (v : Value) (l : List UInt8) (s : ByteArray) (hs : a.eval sl = v) (hown : Ob w B v l) (hx : a.eval x = .string s) (hl : l.length + s.size ≤ 1000000000)
    (h : ∀ v' w', Ob w' B v' (l ++ s.data.toList) → Wt B w w' → K (a.put o.dst v') w') : o.wp Tryd.prog a w K Q := by
  obtain ⟨i0, hi, hz0, hz1, hz2⟩ := info_parts byteInfo
  obtain ⟨v', w', hr, h2, h3, h4⟩ := Lib.run_append_own_string (P := Tryd.prog) w B 42 9 o.type 5 i0 Tryd.underlying42 Tryd.underlying9 hi hz0 hz1 hz2 v l.length (Lib.byteCells l) hown.own s (by unfold maxLen; omega) (by omega) hown.ba
  unfold Oper.wp execOp
  simp only [ho, resolve, invoke, builtin, Sem.run_bind, Sem.run_pure, Result.andThen_ok, List.map_toArray, List.map_cons, List.map_nil, hs, hx, hr]
  have hb := Wt.grown hown h3
  exact h v' w' ⟨by rw [List.length_append, bytes_app]; exact h2, Nat.le_trans hown.ba hb.bl.size⟩ hb
theorem wp_addC {w : World} {o : Oper} {a : Act} {K : Act → World → Prop} {Q : Exit → Act → World → Prop} (sl x : Operand)
    (ho : o.op = .call { callee := .builtin .append, args := #[sl, x], argTypes := #[42, 42] }) (B : Nat) (v : Value) (l : List UInt8) (ch : UInt8) (hs : a.eval sl = v) (hown : Ob w B v l) (g : Nat) (hx : a.eval x = .slice (some ⟨g, 0, none⟩) 1 1) (hc : w.cell? ⟨g, 0, none⟩ = some (.int .u8 ch.toNat)) (hl : l.length ≤ 1000000000)
    (h : ∀ v' w', Ob w' B v' (l ++ [ch]) → Wt B w w' → K (a.put o.dst v') w') : o.wp Tryd.prog a w K Q := by
  obtain ⟨i0, hi, hz0, hz1, hz2⟩ := info_parts byteInfo
  refine wp_append_own w sl x 42 ho B 5 i0 _ 1 1 Tryd.underlying42 hi hz0 hz1 hz2 rfl (by decide) v l.length (Lib.byteCells l) hs hown.own ⟨g, 0, none⟩ 1 1 [.int .u8 ch.toNat] hx rfl (fun j u hu => ?_) (fun u hu => ?_) (by unfold maxLen; omega) (by omega) hown.ba (fun v' w' h2 h3 _ => ?_)
  · cases j with
    | zero => simp at hu; subst hu; simpa [Addr.add] using hc
    | succ j => simp at hu
  · simp at hu; subst hu; rfl
  · have hb := Wt.grown hown h3
    exact h v' w' ⟨by rw [List.length_append, bytes_app]; exact h2, Nat.le_trans hown.ba hb.bl.size⟩ hb
/-- A node's box is no row of bytes: writing leaves it. -/
theorem box_wt {w w' : World} {B g : Nat} {arr : Array Value} {fz : Nat × Nat} (h : w.heap[g]? = some (.cells arr 26 fz)) (k : Wt B w w') : w'.heap[g]? = some (.cells arr 26 fz) :=
  k.ok g _ h (by simp) (fun c f e => by injection e with _ e _; revert e; decide)
/-- A literal's bytes. -/
def litS (kind n : Nat) : List UInt8 := if kind = 1 then (if n = 1 then [116, 114, 117, 101] else [102, 97, 108, 115, 101]) else if kind = 2 then Lib.decDigits n else if kind = 3 then 36 :: decU 100 n else decU 10000 n ++ [37]
set_option maxRecDepth 100000 in
set_option maxHeartbeats 2000000 in
theorem showLit_bool (B n : Nat) (nm : ByteArray) (pl : Int) (l : List UInt8) (v : Value) (w : World) (hn : n ≤ 1) (h : Ob w B v l) (hl : l.length ≤ 800000000) (hT : PT B w) :
    Calls Tryd.prog 19 #[v, .agg #[.string ⟨#[108, 105, 116]⟩, .string nm, .int .i64 1, .int .i64 (n : Nat), .int .i64 pl, .slice none 0 0]] w fun e w' => ∃ v', e = .returned v' ∧ Ob w' B v' (l ++ litS 1 n) ∧ Wt B w w' := by
  have hs := h.ba
  have B0 := hid (show Below w.heap.size w (w.alloc (.cells #[.string ⟨#[108, 105, 116]⟩, .string nm, .int .i64 1, .int .i64 (n : Nat), .int .i64 pl, .slice none 0 0] 26)) from (Below.refl _ _).alloc (Nat.le_refl _) _)
  have OB := hid (h.next B0.out)
  have BB := hid (Wt.of hs B0.out)
  have TH := hid (hT.on BB.out.bl)
  have HX := hid (show (w.alloc (.cells #[.string ⟨#[108, 105, 116]⟩, .string nm, .int .i64 1, .int .i64 (n : Nat), .int .i64 pl, .slice none 0 0] 26)).heap[w.heap.size]? = some (.cells #[.string ⟨#[108, 105, 116]⟩, .string nm, .int .i64 1, .int .i64 (n : Nat), .int .i64 pl, .slice none 0 0] 26) from heap_alloc_new w _)
  obtain ⟨c0, c1, c2, c3, c4, c5, cz⟩ := B6.new w 26 (.string ⟨#[108, 105, 116]⟩) (.string nm) (.int .i64 1) (.int .i64 (n : Nat)) (.int .i64 pl) (.slice none 0 0)
  clear h hT B0
  go_enter Tryd.func19, Tryd.ntmps19
  go_upto_region 1 with fail
  generalize World.alloc w _ = w1 at *
  generalize w.heap.size = g at *
  have KB := hid (fun w => boolText_any n w hn)
  obtain ⟨T, hTT⟩ : ∃ T : ByteArray, (if n = 1 then ⟨#[116, 114, 117, 101]⟩ else ⟨#[102, 97, 108, 115, 101]⟩) = T := ⟨_, rfl⟩
  have FE := hid (show litS 1 n = T.data.toList from by rw [← hTT]; unfold litS; rw [if_pos rfl]; split <;> rfl)
  have TS : T.size ≤ 5 := by rw [← hTT]; split <;> decide
  rw [hTT] at KB
  clear hTT
  go_wp2_with (first | (go_at_call 34; with_reducible refine Calls.mono (KB.out _) ?_; rintro e w2 ⟨rfl, rfl⟩) | (at_builtin; refine wpList_addS rfl (.tmp 14) (.tmp 17) rfl B v l T rfl OB.out rfl (by omega) ?_; intro v2 w2 o2 b2))
  go_ret
  exact ⟨v2, rfl, by rw [FE.out]; exact o2, BB.out.trans b2⟩
set_option maxRecDepth 100000 in
set_option maxHeartbeats 2000000 in
theorem showLit_count (B n : Nat) (nm : ByteArray) (pl : Int) (l : List UInt8) (v : Value) (w : World) (hn : n < 9223372036854775808) (h : Ob w B v l) (hl : l.length ≤ 800000000) (hT : PT B w) :
    Calls Tryd.prog 19 #[v, .agg #[.string ⟨#[108, 105, 116]⟩, .string nm, .int .i64 2, .int .i64 (n : Nat), .int .i64 pl, .slice none 0 0]] w fun e w' => ∃ v', e = .returned v' ∧ Ob w' B v' (l ++ litS 2 n) ∧ Wt B w w' := by
  have hs := h.ba
  have B0 := hid (show Below w.heap.size w (w.alloc (.cells #[.string ⟨#[108, 105, 116]⟩, .string nm, .int .i64 2, .int .i64 (n : Nat), .int .i64 pl, .slice none 0 0] 26)) from (Below.refl _ _).alloc (Nat.le_refl _) _)
  have OB := hid (h.next B0.out)
  have BB := hid (Wt.of hs B0.out)
  have TH := hid (hT.on BB.out.bl)
  have HX := hid (show (w.alloc (.cells #[.string ⟨#[108, 105, 116]⟩, .string nm, .int .i64 2, .int .i64 (n : Nat), .int .i64 pl, .slice none 0 0] 26)).heap[w.heap.size]? = some (.cells #[.string ⟨#[108, 105, 116]⟩, .string nm, .int .i64 2, .int .i64 (n : Nat), .int .i64 pl, .slice none 0 0] 26) from heap_alloc_new w _)
  obtain ⟨c0, c1, c2, c3, c4, c5, cz⟩ := B6.new w 26 (.string ⟨#[108, 105, 116]⟩) (.string nm) (.int .i64 2) (.int .i64 (n : Nat)) (.int .i64 pl) (.slice none 0 0)
  clear h hT B0
  go_enter Tryd.func19, Tryd.ntmps19
  go_upto_region 1 with fail
  generalize World.alloc w _ = w1 at *
  generalize w.heap.size = g at *
  have KB := hid (show Calls Tryd.prog 35 #[v, .int .i64 (n : Nat), .int .i64 10] w1 (fun e w' => ∃ v', e = .returned v' ∧ w'.ownsRow B 5 1 v' (l.length + (Lib.itoa (n : Nat)).length) (Lib.byteCells l ++ Lib.byteCells (Lib.itoa (n : Nat))) ∧ Below B w1 w' ∧ Lib.OthersKept 5 none w1 w') from Any.strconv_AppendInt_10 laysI B l.length (n : Nat) (by omega) (by omega) v (Lib.byteCells l) w1 OB.out.own OB.out.ba (by omega) TH.out)
  have FE := hid (show litS 2 n = Lib.itoa (n : Nat) from by unfold litS Lib.itoa; rw [if_neg (by decide), if_pos rfl, if_neg (by omega)]; rfl)
  go_wp2_with (go_at_call 35; with_reducible refine Calls.mono KB.out ?_; rintro e w2 ⟨v2, rfl, o2, b2, k2⟩)
  go_ret
  exact ⟨v2, rfl, ⟨by rw [FE.out, List.length_append, bytes_app]; exact o2, Nat.le_trans OB.out.ba b2.size⟩, BB.out.trans ⟨b2, k2⟩⟩
set_option maxRecDepth 100000 in
set_option maxHeartbeats 2000000 in
theorem showLit_money (B n : Nat) (nm : ByteArray) (pl : Int) (l : List UInt8) (v : Value) (w : World) (hn : n < 9223372036854775808) (h : Ob w B v l) (hl : l.length ≤ 800000000) (hT : PT B w) :
    Calls Tryd.prog 19 #[v, .agg #[.string ⟨#[108, 105, 116]⟩, .string nm, .int .i64 3, .int .i64 (n : Nat), .int .i64 pl, .slice none 0 0]] w fun e w' => ∃ v', e = .returned v' ∧ Ob w' B v' (l ++ litS 3 n) ∧ Wt B w w' := by
  have hs := h.ba
  have B0 := hid (show Below w.heap.size w (w.alloc (.cells #[.string ⟨#[108, 105, 116]⟩, .string nm, .int .i64 3, .int .i64 (n : Nat), .int .i64 pl, .slice none 0 0] 26)) from (Below.refl _ _).alloc (Nat.le_refl _) _)
  have OB := hid (h.next B0.out)
  have BB := hid (Wt.of hs B0.out)
  have TH := hid (hT.on BB.out.bl)
  have HX := hid (show (w.alloc (.cells #[.string ⟨#[108, 105, 116]⟩, .string nm, .int .i64 3, .int .i64 (n : Nat), .int .i64 pl, .slice none 0 0] 26)).heap[w.heap.size]? = some (.cells #[.string ⟨#[108, 105, 116]⟩, .string nm, .int .i64 3, .int .i64 (n : Nat), .int .i64 pl, .slice none 0 0] 26) from heap_alloc_new w _)
  obtain ⟨c0, c1, c2, c3, c4, c5, cz⟩ := B6.new w 26 (.string ⟨#[108, 105, 116]⟩) (.string nm) (.int .i64 3) (.int .i64 (n : Nat)) (.int .i64 pl) (.slice none 0 0)
  clear h hT B0
  go_enter Tryd.func19, Tryd.ntmps19
  go_upto_region 1 with fail
  generalize World.alloc w _ = w1 at *
  generalize w.heap.size = g at *
  have FE := hid (show l ++ litS 3 n = (l ++ [36]) ++ decU 100 n from by unfold litS; rw [if_neg (by decide), if_neg (by decide), if_pos rfl, List.append_assoc]; rfl)
  go_upto_region 9 with fail
  refine wp_region_held_drew (S := (fun W => W.cell? ⟨g, 3, none⟩ = some (.int .i64 (n : Nat)))) (by kernel_rfl) c3 (fun hHeld => ?_)
  have O0 := hid (show Ob w1.drew B v l from OB.out.next (Below.refl _ _).drew)
  have B0 := hid (show Wt B w w1.drew from BB.out.next OB.out.ba (Below.refl _ _).drew)
  have T0 := hid (TH.out.on (show Below B w1 w1.drew from (Below.refl _ _).drew))
  have H0 := hid (show w1.drew.heap[g]? = _ from HX.out)
  generalize w1.drew = wz at *
  refine take2 rfl (i := 0) (v := v) (d := 27) rfl rfl (by kernel_rfl) (by kernel_rfl) (by kernel_rfl) (fun _ _ _ h => h) (Or.inl ⟨by rfl, ?_⟩) hHeld ?_
  · (intro W hW; (try dsimp only at hW); go_simp)
  try simp only [Act.put, List.setIfInBounds_toArray, List.set_cons_zero, List.set_cons_succ]
  refine take2 rfl (i := 1) (v := .pointer (some ⟨g, 3, none⟩)) (d := 28) rfl rfl (by kernel_rfl) (by kernel_rfl) (by kernel_rfl) (fun _ _ _ h => h) (Or.inl ⟨by rfl, ?_⟩) hHeld ?_
  · (intro W hW; (try dsimp only at hW); go_simp)
  try simp only [Act.put, List.setIfInBounds_toArray, List.set_cons_zero, List.set_cons_succ]
  refine take2 rfl (i := 2) (v := .int .i64 (n : Nat)) (d := 29) rfl rfl (by kernel_rfl) (by kernel_rfl) (by kernel_rfl) (fun _ _ _ h => h) (Or.inl ⟨by rfl, ?_⟩) hHeld ?_
  · (intro W hW; (try dsimp only at hW); go_simp)
  try simp only [Act.put, List.setIfInBounds_toArray, List.set_cons_zero, List.set_cons_succ]
  refine take2 rfl (i := 6) (v := .pointer (some ⟨g, 3, none⟩)) (d := 33) rfl rfl (by kernel_rfl) (by kernel_rfl) (by kernel_rfl) (fun _ _ _ h => h) (Or.inl ⟨by rfl, ?_⟩) hHeld ?_
  · (intro W hW; (try dsimp only at hW); go_simp)
  try simp only [Act.put, List.setIfInBounds_toArray, List.set_cons_zero, List.set_cons_succ]
  refine take2 rfl (i := 7) (v := .int .i64 (n : Nat)) (d := 34) rfl rfl (by kernel_rfl) (by kernel_rfl) (by kernel_rfl) (fun _ _ _ h => h) (Or.inl ⟨by rfl, ?_⟩) hHeld ?_
  · (intro W hW; (try dsimp only at hW); go_simp)
  try simp only [Act.put, List.setIfInBounds_toArray, List.set_cons_zero, List.set_cons_succ]
  refine wpAnyH_ready (rs := [3]) (by kernel_rfl) (by simp) ?_
  refine cons2 rfl rfl (fun K9 hK => ?_)
  go_simp
  go_at_call 37
  refine Calls.mono (sign_pos n wz) ?_
  rintro e w5 ⟨rfl, rfl⟩
  go_wp2_with fail
  refine hK.out _ _ (hHeld) (fun hX => ?_)
  clear hK K9 hHeld
  have hHeld := hX
  clear hX
  try simp only [Act.put, List.setIfInBounds_toArray, List.set_cons_zero, List.set_cons_succ]
  refine take2 rfl (i := 4) (v := .string (⟨#[]⟩ ++ ⟨#[36]⟩)) (d := 31) rfl rfl (by kernel_rfl) (by kernel_rfl) (by kernel_rfl) (fun _ _ _ h => h) (Or.inl ⟨by rfl, ?_⟩) hHeld ?_
  · (intro W hW; (try dsimp only at hW); go_simp)
  try simp only [Act.put, List.setIfInBounds_toArray, List.set_cons_zero, List.set_cons_succ]
  refine wpAnyH_ready (rs := [5]) (by kernel_rfl) (by simp) ?_
  refine cons2 rfl rfl (fun K9 hK => ?_)
  rw [if_pos (by kernel_rfl)]
  refine wp_addS (.tmp 27) (.tmp 31) rfl B v l (⟨#[]⟩ ++ ⟨#[36]⟩) rfl O0.out rfl (by show l.length + 1 ≤ _; omega) ?_
  intro v2 w2 o2 b2
  rw [show (⟨#[]⟩ ++ ⟨#[36]⟩ : ByteArray).data.toList = [36] from by decide] at o2
  have O2 := hid o2
  have H2 := hid (box_wt H0.out b2)
  have C2 := hid (World.cell?_of_block (a := ⟨g, 3, none⟩) (H2.out.trans H0.out.symm))
  have T2 := hid (T0.out.on b2.bl)
  have BB2 := hid (B0.out.trans b2)
  clear o2 b2
  refine hK.out _ _ (C2.out.trans hHeld) (fun hX => ?_)
  clear hK K9 hHeld
  have hHeld := hX
  clear hX
  try simp only [Act.put, List.setIfInBounds_toArray, List.set_cons_zero, List.set_cons_succ]
  refine wpAnyH_ready (rs := [8]) (by kernel_rfl) (by simp) ?_
  refine cons2 rfl rfl (fun K9 hK => ?_)
  go_simp
  go_at_call 36
  refine Calls.mono (decimal_any B n 100 (l ++ [36]) v2 w2 (by omega) (by decide) (by decide) O2.out (by rw [List.length_append]; simp; omega) T2.out) ?_
  rintro e w5 ⟨v5, rfl, o5, b5⟩
  have O5 := hid o5
  have C5 := hid (World.cell?_of_block (a := ⟨g, 3, none⟩) ((box_wt H2.out b5).trans H2.out.symm))
  have BB5 := hid (BB2.out.trans b5)
  clear o5 b5
  go_wp2_with fail
  refine hK.out _ _ (C5.out.trans hHeld) (fun hX => ?_)
  clear hK K9 hHeld
  have hHeld := hX
  clear hX
  try simp only [Act.put, List.setIfInBounds_toArray, List.set_cons_zero, List.set_cons_succ]
  refine take2 rfl (i := 9) (v := v5) (d := 4) rfl rfl (by kernel_rfl) (by kernel_rfl) (by kernel_rfl) (fun _ _ _ h => h) (Or.inl ⟨by rfl, ?_⟩) hHeld ?_
  · (intro W hW; (try dsimp only at hW); go_simp)
  try simp only [Act.put, List.setIfInBounds_toArray, List.set_cons_zero, List.set_cons_succ]
  refine wpAnyH_done (by kernel_rfl) ?_ _
  go_wp2
  go_ret
  exact ⟨v5, rfl, by rw [FE.out]; exact O5.out, BB5.out⟩
end Go.Proofs.YtobolipjgkabhaaDoor

