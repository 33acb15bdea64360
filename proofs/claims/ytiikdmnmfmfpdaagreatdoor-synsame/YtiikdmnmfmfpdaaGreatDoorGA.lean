/- Library functions of strconv and strings, at this program's numbers. Bytes of a call's own, and what is written behind them: texts, bytes, numbers. The walks over sign, boolText and decimal. The walk over showLit. The walk over pattern. What a tree is written as, in plain words. The walk over fill. The walk over show. The walks over Show, EqualFunc and Same. The walks over EqualFunc and Same. The walk over Same. Texts without tables are parsed; the law's own look that it is awake: the texts. The law's own look that it is awake. -/
import Derived.Test.YtiikdmnmfmfpdaaGreatDoorSa
import Derived.Shelf.Strconv.AppendUint10
import Derived.Shelf.Strconv.AppendIntPublic10
import Derived.Shelf.Strings.Count
import Derived.Shelf.Strings.Search3
import Derived.KernelRfl
import Derived.Test.YtiikdmnmfmfpdaaGreatDoorSg
import Derived.Lib.AppendStr
import Derived.Lib.OthersKept
import Derived.Lib.BufferKept
import Derived.Laws.Concat
import Derived.BigQuiet
import Derived.Deep.LoopGhost
import Derived.Laws.BytesArg
import Derived.Test.YtiikdmnmfmfpdaaGreatDoorGB
namespace Go.Proofs.YtiikdmnmfmfpdaaGreatDoor
open Go.Shelf Go.RowKit
set_option linter.unusedVariables false
set_option linter.unusedSimpArgs false

def renU : Ren := ⟨fun | 129 => 130 | 283 => 117 | 284 => 118 | 285 => 119 | 286 => 120 | 288 => 110 | 317 => 129 | 318 => 131 | 319 => 132 | 320 => 133 | 337 => 138 | 338 => 139 | n => n, fun | 0 => 0 | 3 => 3 | 4 => 4 | 5 => 5 | 9 => 9 | 20 => 20 | 37 => 62 | 46 => 126 | 51 => 129 | 53 => 98 | 171 => 121 | 173 => 124 | 212 => 128 | 213 => 130 | 232 => 135 | 233 => 136 | n => n, fun | 17 => 3 | 18 => 4 | 19 => 5 | n => n⟩
theorem laysU : LaysM.n288 Tryz.prog renU :=
  { mixed := by kernel_rfl
    f129 := by kernel_rfl
    f283 := by kernel_rfl
    f284 := by kernel_rfl
    f285 := by kernel_rfl
    f286 := by kernel_rfl
    f288 := by kernel_rfl
    f317 := by kernel_rfl
    f318 := by kernel_rfl
    f319 := by kernel_rfl
    f320 := by kernel_rfl
    f337 := by kernel_rfl
    f338 := by kernel_rfl
    t0 := by kernel_rfl
    a0 := fun _ => by kernel_rfl
    z0 := fun _ => by kernel_rfl
    v0 := fun _ => by kernel_rfl
    t3 := by kernel_rfl
    a3 := fun _ => by kernel_rfl
    z3 := fun _ => by kernel_rfl
    v3 := fun _ => by kernel_rfl
    t4 := by kernel_rfl
    a4 := fun _ => by kernel_rfl
    z4 := fun _ => by kernel_rfl
    v4 := fun _ => by kernel_rfl
    t5 := by kernel_rfl
    a5 := fun _ => by kernel_rfl
    z5 := fun _ => by kernel_rfl
    v5 := fun _ => by kernel_rfl
    t9 := by kernel_rfl
    a9 := fun _ => by kernel_rfl
    z9 := fun _ => by kernel_rfl
    v9 := fun _ => by kernel_rfl
    t20 := by kernel_rfl
    a20 := fun _ => by kernel_rfl
    z20 := fun _ => by kernel_rfl
    v20 := fun _ => by kernel_rfl
    t37 := by kernel_rfl
    a37 := fun _ => by kernel_rfl
    z37 := fun _ => by kernel_rfl
    v37 := fun _ => by kernel_rfl
    t46 := by kernel_rfl
    a46 := fun _ => by kernel_rfl
    z46 := fun _ => by kernel_rfl
    v46 := fun _ => by kernel_rfl
    t51 := by kernel_rfl
    a51 := fun _ => by kernel_rfl
    z51 := fun _ => by kernel_rfl
    v51 := fun _ => by kernel_rfl
    t53 := by kernel_rfl
    a53 := fun _ => by kernel_rfl
    z53 := fun _ => by kernel_rfl
    v53 := fun _ => by kernel_rfl
    t171 := by kernel_rfl
    a171 := fun _ => by kernel_rfl
    z171 := fun _ => by kernel_rfl
    v171 := fun _ => by kernel_rfl
    t173 := by kernel_rfl
    a173 := fun _ => by kernel_rfl
    z173 := fun _ => by kernel_rfl
    v173 := fun _ => by kernel_rfl
    t212 := by kernel_rfl
    a212 := fun _ => by kernel_rfl
    z212 := fun _ => by kernel_rfl
    v212 := fun _ => by kernel_rfl
    t213 := by kernel_rfl
    a213 := fun _ => by kernel_rfl
    z213 := fun _ => by kernel_rfl
    t232 := by kernel_rfl
    a232 := fun _ => by kernel_rfl
    z232 := fun _ => by kernel_rfl
    v232 := fun _ => by kernel_rfl
    t233 := by kernel_rfl
    a233 := fun _ => by kernel_rfl
    z233 := fun _ => by kernel_rfl
    v233 := fun _ => by kernel_rfl
    g17 := by kernel_rfl
    g18 := by kernel_rfl
    g19 := by kernel_rfl
    i0 := by kernel_rfl
    i3 := by kernel_rfl
    i4 := by kernel_rfl
    i5 := by kernel_rfl
    i9 := by kernel_rfl
    i20 := by kernel_rfl
    i37 := by kernel_rfl
    i46 := by kernel_rfl
    i51 := by kernel_rfl
    i53 := by kernel_rfl
    i171 := by kernel_rfl
    i173 := by kernel_rfl
    i212 := by kernel_rfl
    i232 := by kernel_rfl
    i233 := by kernel_rfl
    m17 := by kernel_rfl
    m18 := by kernel_rfl
    m19 := by kernel_rfl }
def renI : Ren := ⟨fun | 129 => 130 | 176 => 76 | 249 => 95 | 283 => 117 | 284 => 118 | 285 => 119 | 286 => 120 | 288 => 110 | 317 => 129 | 318 => 131 | 319 => 132 | 320 => 133 | 337 => 138 | 338 => 139 | n => n, fun | 0 => 0 | 2 => 2 | 3 => 3 | 4 => 4 | 5 => 5 | 9 => 9 | 20 => 20 | 37 => 62 | 46 => 126 | 51 => 129 | 53 => 98 | 171 => 121 | 173 => 124 | 212 => 128 | 213 => 130 | 232 => 135 | 233 => 136 | n => n, fun | 17 => 3 | 18 => 4 | 19 => 5 | n => n⟩
theorem laysI : LaysM.n176 Tryz.prog renI :=
  { mixed := by kernel_rfl
    f129 := by kernel_rfl
    f176 := by kernel_rfl
    f249 := by kernel_rfl
    f283 := by kernel_rfl
    f284 := by kernel_rfl
    f285 := by kernel_rfl
    f286 := by kernel_rfl
    f288 := by kernel_rfl
    f317 := by kernel_rfl
    f318 := by kernel_rfl
    f319 := by kernel_rfl
    f320 := by kernel_rfl
    f337 := by kernel_rfl
    f338 := by kernel_rfl
    t0 := by kernel_rfl
    a0 := fun _ => by kernel_rfl
    z0 := fun _ => by kernel_rfl
    v0 := fun _ => by kernel_rfl
    t2 := by kernel_rfl
    a2 := fun _ => by kernel_rfl
    z2 := fun _ => by kernel_rfl
    v2 := fun _ => by kernel_rfl
    t3 := by kernel_rfl
    a3 := fun _ => by kernel_rfl
    z3 := fun _ => by kernel_rfl
    v3 := fun _ => by kernel_rfl
    t4 := by kernel_rfl
    a4 := fun _ => by kernel_rfl
    z4 := fun _ => by kernel_rfl
    v4 := fun _ => by kernel_rfl
    t5 := by kernel_rfl
    a5 := fun _ => by kernel_rfl
    z5 := fun _ => by kernel_rfl
    v5 := fun _ => by kernel_rfl
    t9 := by kernel_rfl
    a9 := fun _ => by kernel_rfl
    z9 := fun _ => by kernel_rfl
    v9 := fun _ => by kernel_rfl
    t20 := by kernel_rfl
    a20 := fun _ => by kernel_rfl
    z20 := fun _ => by kernel_rfl
    v20 := fun _ => by kernel_rfl
    t37 := by kernel_rfl
    a37 := fun _ => by kernel_rfl
    z37 := fun _ => by kernel_rfl
    v37 := fun _ => by kernel_rfl
    t46 := by kernel_rfl
    a46 := fun _ => by kernel_rfl
    z46 := fun _ => by kernel_rfl
    v46 := fun _ => by kernel_rfl
    t51 := by kernel_rfl
    a51 := fun _ => by kernel_rfl
    z51 := fun _ => by kernel_rfl
    v51 := fun _ => by kernel_rfl
    t53 := by kernel_rfl
    a53 := fun _ => by kernel_rfl
    z53 := fun _ => by kernel_rfl
    v53 := fun _ => by kernel_rfl
    t171 := by kernel_rfl
    a171 := fun _ => by kernel_rfl
    z171 := fun _ => by kernel_rfl
    v171 := fun _ => by kernel_rfl
    t173 := by kernel_rfl
    a173 := fun _ => by kernel_rfl
    z173 := fun _ => by kernel_rfl
    v173 := fun _ => by kernel_rfl
    t212 := by kernel_rfl
    a212 := fun _ => by kernel_rfl
    z212 := fun _ => by kernel_rfl
    v212 := fun _ => by kernel_rfl
    t213 := by kernel_rfl
    a213 := fun _ => by kernel_rfl
    z213 := fun _ => by kernel_rfl
    t232 := by kernel_rfl
    a232 := fun _ => by kernel_rfl
    z232 := fun _ => by kernel_rfl
    v232 := fun _ => by kernel_rfl
    t233 := by kernel_rfl
    a233 := fun _ => by kernel_rfl
    z233 := fun _ => by kernel_rfl
    v233 := fun _ => by kernel_rfl
    g17 := by kernel_rfl
    g18 := by kernel_rfl
    g19 := by kernel_rfl
    i0 := by kernel_rfl
    i2 := by kernel_rfl
    i3 := by kernel_rfl
    i4 := by kernel_rfl
    i5 := by kernel_rfl
    i9 := by kernel_rfl
    i20 := by kernel_rfl
    i37 := by kernel_rfl
    i46 := by kernel_rfl
    i51 := by kernel_rfl
    i53 := by kernel_rfl
    i171 := by kernel_rfl
    i173 := by kernel_rfl
    i212 := by kernel_rfl
    i232 := by kernel_rfl
    i233 := by kernel_rfl
    m17 := by kernel_rfl
    m18 := by kernel_rfl
    m19 := by kernel_rfl }
def renC : Ren := ⟨fun | 138 => 80 | 143 => 101 | 195 => 99 | 217 => 123 | 218 => 100 | 219 => 114 | 224 => 125 | 225 => 124 | 266 => 134 | 267 => 126 | 314 => 135 | n => n, fun | 0 => 0 | 3 => 3 | 4 => 4 | 5 => 5 | 9 => 9 | 46 => 126 | 51 => 129 | 146 => 132 | n => n, fun | 1 => 2 | n => n⟩
theorem laysC : Lays.n138 Tryz.prog renC :=
  { mixed := by kernel_rfl
    f138 := by kernel_rfl
    f143 := by kernel_rfl
    f195 := by kernel_rfl
    f217 := by kernel_rfl
    f218 := by kernel_rfl
    f219 := by kernel_rfl
    f224 := by kernel_rfl
    f225 := by kernel_rfl
    f266 := by kernel_rfl
    f267 := by kernel_rfl
    f314 := by kernel_rfl
    t0 := by kernel_rfl
    a0 := fun _ => by kernel_rfl
    z0 := fun _ => by kernel_rfl
    v0 := fun _ => by kernel_rfl
    t3 := by kernel_rfl
    a3 := fun _ => by kernel_rfl
    z3 := fun _ => by kernel_rfl
    v3 := fun _ => by kernel_rfl
    t4 := by kernel_rfl
    a4 := fun _ => by kernel_rfl
    z4 := fun _ => by kernel_rfl
    v4 := fun _ => by kernel_rfl
    t5 := by kernel_rfl
    a5 := fun _ => by kernel_rfl
    z5 := fun _ => by kernel_rfl
    v5 := fun _ => by kernel_rfl
    t9 := by kernel_rfl
    a9 := fun _ => by kernel_rfl
    z9 := fun _ => by kernel_rfl
    v9 := fun _ => by kernel_rfl
    t46 := by kernel_rfl
    a46 := fun _ => by kernel_rfl
    z46 := fun _ => by kernel_rfl
    v46 := fun _ => by kernel_rfl
    t51 := by kernel_rfl
    a51 := fun _ => by kernel_rfl
    z51 := fun _ => by kernel_rfl
    v51 := fun _ => by kernel_rfl
    t146 := by kernel_rfl
    a146 := fun _ => by kernel_rfl
    z146 := fun _ => by kernel_rfl
    v146 := fun _ => by kernel_rfl
    g1 := by kernel_rfl }
def renT : Ren := ⟨fun | 143 => 101 | 144 => 81 | 217 => 123 | 219 => 114 | 224 => 125 | 225 => 124 | 266 => 134 | 267 => 126 | 314 => 135 | n => n, fun | 3 => 3 | 4 => 4 | 5 => 5 | 9 => 9 | 46 => 126 | 51 => 129 | 146 => 132 | n => n, fun | 1 => 2 | n => n⟩
theorem laysT : Lays.n144 Tryz.prog renT :=
  { mixed := by kernel_rfl
    f143 := by kernel_rfl
    f144 := by kernel_rfl
    f217 := by kernel_rfl
    f219 := by kernel_rfl
    f224 := by kernel_rfl
    f225 := by kernel_rfl
    f266 := by kernel_rfl
    f267 := by kernel_rfl
    f314 := by kernel_rfl
    t3 := by kernel_rfl
    a3 := fun _ => by kernel_rfl
    z3 := fun _ => by kernel_rfl
    v3 := fun _ => by kernel_rfl
    t4 := by kernel_rfl
    a4 := fun _ => by kernel_rfl
    z4 := fun _ => by kernel_rfl
    v4 := fun _ => by kernel_rfl
    t5 := by kernel_rfl
    a5 := fun _ => by kernel_rfl
    z5 := fun _ => by kernel_rfl
    v5 := fun _ => by kernel_rfl
    t9 := by kernel_rfl
    a9 := fun _ => by kernel_rfl
    z9 := fun _ => by kernel_rfl
    v9 := fun _ => by kernel_rfl
    t46 := by kernel_rfl
    a46 := fun _ => by kernel_rfl
    z46 := fun _ => by kernel_rfl
    v46 := fun _ => by kernel_rfl
    t51 := by kernel_rfl
    a51 := fun _ => by kernel_rfl
    z51 := fun _ => by kernel_rfl
    v51 := fun _ => by kernel_rfl
    t146 := by kernel_rfl
    a146 := fun _ => by kernel_rfl
    z146 := fun _ => by kernel_rfl
    v146 := fun _ => by kernel_rfl
    g1 := by kernel_rfl }
end Go.Proofs.YtiikdmnmfmfpdaaGreatDoor

namespace Go.Proofs.YtiikdmnmfmfpdaaGreatDoor
open Go.Shelf Go.RowKit
set_option linter.unusedVariables false
set_option linter.unusedSimpArgs false

/-- Bytes of the call's own: all blocks from B on are its own. -/
structure Ob (w : World) (B : Nat) (v : Value) (l : List UInt8) : Prop where
  own : w.ownsRow B 5 1 v l.length (Lib.byteCells l)
  ba : B ≤ w.heap.size
theorem Ob.nil (w : World) (B : Nat) (h : B ≤ w.heap.size) : Ob w B (.slice none 0 0) [] := ⟨World.ownsRow_nil _ _ _ _, h⟩
theorem Ob.next {w w' : World} {B : Nat} {v : Value} {l : List UInt8} (h : Ob w B v l) (hb : Below w.heap.size w w') : Ob w' B v l := by
  refine ⟨⟨h.own.1, ?_⟩, Nat.le_trans h.ba hb.size⟩
  rcases h.own.2 with hn | ⟨g, cap, cur, hv, hg, hk, rest⟩
  · exact .inl hn
  · refine .inr ⟨g, cap, cur, hv, hg, ?_, rest⟩
    rw [hb.block g (Array.getElem?_eq_some_iff.1 hk).1]
    exact hk
/-- What writing bytes leaves: nothing below B is changed, and nothing that is no row of bytes. -/
structure Wt (B : Nat) (w w' : World) : Prop where
  bl : Below B w w'
  ok : Lib.OthersKept 5 none w w'
theorem Wt.refl (B : Nat) (w : World) : Wt B w w := ⟨Below.refl _ _, Lib.OthersKept.refl _ _ _⟩
theorem Wt.trans {B : Nat} {a b c : World} (h : Wt B a b) (k : Wt B b c) : Wt B a c := ⟨h.bl.trans k.bl, h.ok.trans k.ok⟩
theorem Wt.next {B : Nat} {a b c : World} (h : Wt B a b) (hB : B ≤ b.heap.size) (k : Below b.heap.size b c) : Wt B a c := ⟨h.bl.trans (k.mono hB), h.ok.below k⟩
theorem Wt.of {B : Nat} {b c : World} (hB : B ≤ b.heap.size) (k : Below b.heap.size b c) : Wt B b c := (Wt.refl B b).next hB k
theorem Wt.grown {B : Nat} {w w' : World} {v : Value} {l : List UInt8} (h : Ob w B v l) (hg : w.grownBy w' v.ownBlock) : Wt B w w' :=
  ⟨(Below.refl B w).grown hg h.ba (fun k hk => (World.ownsRow.lt h.own k hk).1), fun k o hk _ ho => by
    rw [hg.block k (Array.getElem?_eq_some_iff.1 hk).1 (fun e => ?_), hk]
    rcases h.own.2 with ⟨hv, _⟩ | ⟨g, cap, cur, hv, _, hgk, _⟩
    · rw [hv] at e; cases e
    · rw [hv] at e
      injection e with e
      subst e
      rw [hgk] at hk
      injection hk with hk
      exact ho _ _ hk.symm⟩
theorem byteInfo : (Tryz.prog.info? 5).map (fun i => (i.zero, i.size, i.bytes)) = some (some (.int .u8 0), 1, 1) := by kernel_rfl
theorem bytes_app (l r : List UInt8) : Lib.byteCells (l ++ r) = Lib.byteCells l ++ Lib.byteCells r := by unfold Lib.byteCells; rw [List.map_append]
theorem wpList_addS {w : World} {ops : Array Oper} {rest : List Oper} {o : Oper} {a : Act} {Q : Exit → Act → World → Prop} (hgd : o.guard = none) (sl x : Operand)
    (ho : o.op = .call { callee := .builtin .append, args := #[sl, x], argTypes := #[62, 9] }) (B : Nat) (v : Value) (l : List UInt8) (s : ByteArray) (hs : a.eval sl = v) (hown : Ob w B v l) (hx : a.eval x = .string s) (hl : l.length + s.size ≤ 1000000000)
    (h : ∀ v' w', Ob w' B v' (l ++ s.data.toList) → Wt B w w' → wpList Tryz.prog ops Q rest (a.put o.dst v') w') : wpList Tryz.prog ops Q (o :: rest) a w := by
  obtain ⟨i0, hi, hz0, hz1, hz2⟩ := info_parts byteInfo
  refine Lib.wpList_append_own_string w hgd sl x 62 9 ho B 5 i0 Tryz.underlying62 Tryz.underlying9 hi hz0 hz1 hz2 v l.length (Lib.byteCells l) hs hown.own s hx (by unfold maxLen; omega) (by omega) hown.ba (fun v' w' h2 h3 _ => ?_)
  have hb := Wt.grown hown h3
  refine h v' w' ⟨?_, Nat.le_trans hown.ba hb.bl.size⟩ hb
  rw [List.length_append, bytes_app]
  exact h2
theorem wpList_addC {w : World} {ops : Array Oper} {rest : List Oper} {o : Oper} {a : Act} {Q : Exit → Act → World → Prop} (hgd : o.guard = none) (sl x : Operand)
    (ho : o.op = .call { callee := .builtin .append, args := #[sl, x], argTypes := #[62, 62] }) (B : Nat) (v : Value) (l : List UInt8) (ch : UInt8) (hs : a.eval sl = v) (hown : Ob w B v l) (g : Nat) (hx : a.eval x = .slice (some ⟨g, 0, none⟩) 1 1) (hc : w.cell? ⟨g, 0, none⟩ = some (.int .u8 ch.toNat)) (hl : l.length ≤ 1000000000)
    (h : ∀ v' w', Ob w' B v' (l ++ [ch]) → Wt B w w' → wpList Tryz.prog ops Q rest (a.put o.dst v') w') : wpList Tryz.prog ops Q (o :: rest) a w := by
  obtain ⟨i0, hi, hz0, hz1, hz2⟩ := info_parts byteInfo
  refine wpList_append_own w hgd sl x 62 ho B 5 i0 _ 1 1 Tryz.underlying62 hi hz0 hz1 hz2 rfl (by decide) v l.length (Lib.byteCells l) hs hown.own ⟨g, 0, none⟩ 1 1 [.int .u8 ch.toNat] hx rfl (fun j u hu => ?_) (fun u hu => ?_) (by unfold maxLen; omega) (by omega) hown.ba (fun v' w' h2 h3 _ => ?_)
  · cases j with
    | zero => simp at hu; subst hu; simpa [Addr.add] using hc
    | succ j => simp at hu
  · simp at hu; subst hu; rfl
  · have hb := Wt.grown hown h3
    refine h v' w' ⟨?_, Nat.le_trans hown.ba hb.bl.size⟩ hb
    rw [List.length_append, bytes_app]
    exact h2
/-- The table of powers of ten. -/
abbrev PT (B : Nat) (w : World) : Prop := Lib.TabBelow Tryz.prog B w "internal/strconv.uint64pow10" .u64 Lib.pow10Tab
theorem iappU (B u : Nat) (l : List UInt8) (v : Value) (w : World) (hu : u < 18446744073709551616) (h : Ob w B v l) (hl : l.length ≤ 1000000000) (hT : PT B w) :
    Calls Tryz.prog 110 #[v, .int .u64 (u : Nat), .int .i64 10] w fun e w' => ∃ v', e = .returned v' ∧ Ob w' B v' (l ++ Lib.decDigits u) ∧ Wt B w w' := by
  rcases Nat.lt_or_ge u 100 with c | c
  · refine Calls.mono (Any.internal_strconv_AppendUint_10_small laysU B l.length u c v (Lib.byteCells l) w h.own h.ba (by omega)) ?_
    rintro e w' ⟨v', rfl, o, b, k⟩
    exact ⟨v', rfl, ⟨by rw [List.length_append, bytes_app]; exact o, Nat.le_trans h.ba b.size⟩, b, k⟩
  · refine Calls.mono (Any.internal_strconv_AppendUint_10_big laysU B l.length u c hu v (Lib.byteCells l) w h.own h.ba (by omega) hT.here) ?_
    rintro e w' ⟨v', rfl, o, b, k⟩
    exact ⟨v', rfl, ⟨by rw [List.length_append, bytes_app]; exact o, Nat.le_trans h.ba b.size⟩, b, k⟩
theorem appU (B u : Nat) (l : List UInt8) (v : Value) (w : World) (hu : u < 18446744073709551616) (h : Ob w B v l) (hl : l.length ≤ 1000000000) (hT : PT B w) :
    Calls Tryz.prog 96 #[v, .int .u64 (u : Nat), .int .i64 10] w fun e w' => ∃ v', e = .returned v' ∧ Ob w' B v' (l ++ Lib.decDigits u) ∧ Wt B w w' := by
  have HC := hid (iappU B u l v w hu h hl hT)
  clear h hT
  go_enter Tryz.func96, Tryz.ntmps96
  go_wp2_with (go_at_call 110; with_reducible refine Calls.mono HC.out ?_; rintro e w' ⟨v', rfl, h1, h2⟩)
  go_ret
  exact ⟨v', rfl, h1, h2⟩
end Go.Proofs.YtiikdmnmfmfpdaaGreatDoor

namespace Go.Proofs.YtiikdmnmfmfpdaaGreatDoor
open Go.Shelf Go.RowKit
set_option linter.unusedVariables false
set_option linter.unusedSimpArgs false

theorem Ob.at_ {w : World} {B : Nat} {v : Value} {l : List UInt8} (h : Ob w B v l) (h0 : 0 < l.length) : ∃ g c, v = .slice (some ⟨g, 0, none⟩) l.length c ∧ B ≤ g ∧ (∀ i x, l[i]? = some x → w.cell? ⟨g, i, none⟩ = some (.int .u8 x.toNat)) ∧ ∀ i, w.frozen? ⟨g, i, none⟩ = false := by
  rcases h.own.2 with ⟨_, hn⟩ | ⟨g, cap, cur, hv, hg, hk, h1, h2, h3, h4⟩
  · omega
  · refine ⟨g, cap, hv, hg, fun i x hx => ?_, fun i => by simp [World.frozen?, hk]⟩
    have hu : (Lib.byteCells l)[i]? = some (.int .u8 x.toNat) := by unfold Lib.byteCells; rw [List.getElem?_map, hx]; rfl
    have l1 := (List.getElem?_eq_some_iff.1 hx).1
    rw [← h4, List.getElem?_take_of_lt (by omega), Array.getElem?_toList] at hu
    simp [World.cell?, hk, hu]
theorem Ob.set {w : World} {B g c : Nat} {l : List UInt8} (h : Ob w B (.slice (some ⟨g, 0, none⟩) l.length c) l) (i : Nat) (hi : i < l.length) (x : UInt8) : Ob (w.setCell ⟨g, i, none⟩ (.int .u8 x.toNat)) B (.slice (some ⟨g, 0, none⟩) l.length c) (l.set i x) := by
  rcases h.own.2 with ⟨hv, hn⟩ | ⟨g', cap, cur, hv, hg, hk, h1, h2, h3, h4⟩
  · cases hv
  · injection hv with e1 e2 e3
    injection e1 with e1
    injection e1 with e1
    subst e1 e3
    refine ⟨⟨by simp [Lib.byteCells], .inr ⟨g, c, cur.setIfInBounds i (.int .u8 x.toNat), by simp, hg, ?_, by simpa using h1, h2, by simpa using h3, ?_⟩⟩, by simpa using h.ba⟩
    · simp [World.setCell, Array.getElem?_modify, hk]
    · have := h4
      unfold Lib.byteCells at this ⊢
      rw [List.map_set, ← this]
      simp [List.take_set]
theorem Ob.wt {w0 w : World} {B g c : Nat} {l : List UInt8} (h : Ob w B (.slice (some ⟨g, 0, none⟩) l.length c) l) (k : Wt B w0 w) (i : Nat) (x : UInt8) : Wt B w0 (w.setCell ⟨g, i, none⟩ (.int .u8 x.toNat)) := by
  rcases h.own.2 with ⟨hv, hn⟩ | ⟨g', cap, cur, hv, hg, hk, h1, h2, h3, h4⟩
  · cases hv
  · injection hv with e1 e2 e3
    injection e1 with e1
    injection e1 with e1
    subst e1 e3
    refine ⟨k.bl.setCell (p := ⟨g, i, none⟩) hg _, fun j o hj hb ho => ?_⟩
    have := k.ok j o hj hb ho
    by_cases e : j = g
    · subst e
      rw [hk] at this
      injection this with this
      exact absurd this.symm (ho _ _)
    · rw [Below.heap_setCell w ⟨g, i, none⟩ _ j e]
      exact this
theorem sign_pos (n : Nat) (w : World) : Calls Tryz.prog 78 #[.int .i64 (n : Nat)] w fun e w' => e = .returned (.string ⟨#[]⟩) ∧ w = w' := by
  have h : ¬ (n : Int) < 0 := by omega
  go_enter Tryz.func78, Tryz.ntmps78
  go_wp2
  go_ret
  exact ⟨rfl, rfl⟩
theorem boolText_any (n : Nat) (w : World) (h : n ≤ 1) : Calls Tryz.prog 75 #[.int .i64 (n : Nat)] w fun e w' => e = .returned (.string (if n = 1 then ⟨#[116, 114, 117, 101]⟩ else ⟨#[102, 97, 108, 115, 101]⟩)) ∧ w = w' := by
  rcases Nat.lt_or_ge n 1 with c | c
  · obtain rfl : n = 0 := by omega
    go_enter Tryz.func75, Tryz.ntmps75
    go_wp2
    go_ret
    exact ⟨rfl, rfl⟩
  · obtain rfl : n = 1 := by omega
    go_enter Tryz.func75, Tryz.ntmps75
    go_wp2
    go_ret
    exact ⟨rfl, rfl⟩
/-- A number in units of so many, with a dot. -/
def decU (unit n : Nat) : List UInt8 := Lib.decDigits (n / unit) ++ (Lib.decDigits (unit + n % unit)).set 0 46
theorem dd_pos (u : Nat) : 0 < (Lib.decDigits u).length := by
  unfold Lib.decDigits
  split
  · simp
  · simp
theorem dd_len (u : Nat) (h : u < 100000000000000000000) : (Lib.decDigits u).length ≤ 20 := by
  have key : ∀ k u, u < 10 ^ (k + 1) → (Lib.decDigits u).length ≤ k + 1 := by
    intro k
    induction k with
    | zero => intro u h; unfold Lib.decDigits; rw [dif_pos (by simpa using h)]; simp
    | succ k ih =>
      intro u h
      unfold Lib.decDigits
      split
      · simp
      · rw [List.length_append]
        have := ih (u / 10) (by rw [Nat.div_lt_iff_lt_mul (by decide)]; rw [Nat.pow_succ] at h; exact h)
        simp
        omega
  exact key 19 u (by simpa using h)
set_option maxHeartbeats 2000000 in
theorem decimal_any (B n unit : Nat) (l : List UInt8) (v : Value) (w : World) (hn : n < 9223372036854775808) (h1 : 1 ≤ unit) (h2 : unit ≤ 1000000) (h : Ob w B v l) (hl : l.length ≤ 900000000) (hT : PT B w) :
    Calls Tryz.prog 77 #[v, .int .i64 (n : Nat), .int .u64 (unit : Nat)] w fun e w' => ∃ v', e = .returned v' ∧ Ob w' B v' (l ++ decU unit n) ∧ Wt B w w' := by
  obtain ⟨q, hq⟩ : ∃ q, n / unit = q := ⟨_, rfl⟩
  obtain ⟨r, hr⟩ : ∃ r, n % unit = r := ⟨_, rfl⟩
  have q1 : q ≤ n := by rw [← hq]; exact Nat.div_le_self _ _
  have r1 : r < unit := by rw [← hr]; exact Nat.mod_lt _ (by omega)
  have e1 : (n : Int) / (unit : Int) = (q : Int) := by rw [← hq]; rfl
  have e2 : (n : Int) % (unit : Int) = (r : Int) := by rw [← hr]; rfl
  have e1' : (n : Int).tdiv (unit : Int) = (q : Int) := by rw [Int.tdiv_eq_ediv_of_nonneg (by omega)]; exact e1
  have e2' : (n : Int).tmod (unit : Int) = (r : Int) := by rw [Int.tmod_eq_emod_of_nonneg (by omega)]; exact e2
  have f1 : IntKind.u64.wrap (n : Int) = (n : Int) := by go_arith
  have f2 : IntKind.u64.wrap (q : Int) = (q : Int) := by go_arith
  have f3 : IntKind.u64.wrap (r : Int) = (r : Int) := by go_arith
  have f4 : IntKind.u64.wrap ((unit : Int) + (r : Int)) = (unit : Int) + (r : Int) := by go_arith
  have n0 : ¬ (n : Int) < 0 := by omega
  have u0 : (unit : Int) ≠ 0 := by omega
  have PD := hid (show decU unit n = Lib.decDigits q ++ (Lib.decDigits (unit + r)).set 0 46 from by unfold decU; rw [hq, hr])
  have d1 := dd_len q (by omega)
  have d2 := dd_len (unit + r) (by omega)
  have d3 := dd_pos q
  have d4 := dd_pos (unit + r)
  have HC := hid (appU B q l v w (by omega) h (by omega) hT)
  have TH := hid hT
  clear h hT hq hr
  go_enter Tryz.func77, Tryz.ntmps77
  go_upto_region 5 with (go_at_call 96; with_reducible refine Calls.mono HC.out ?_; rintro e w1 ⟨v1, rfl, o1, b1⟩; have O1 := hid o1; have B1 := hid b1; clear o1 b1)
  have A1 := O1.out.at_ (by rw [List.length_append]; omega)
  obtain ⟨g1, c1, rfl, _, _, _⟩ := A1
  have HC2 := hid (show Calls Tryz.prog 96 #[.slice (some ⟨g1, 0, none⟩) (l ++ Lib.decDigits q).length c1, .int .u64 ((unit : Int) + (r : Int)), .int .i64 10] w1 _ from appU B (unit + r) (l ++ Lib.decDigits q) _ w1 (by omega) O1.out (by rw [List.length_append]; omega) (TH.out.on B1.out.bl))
  generalize hL : l ++ Lib.decDigits q = L at *
  have lL : L.length ≤ 900000020 := by rw [← hL, List.length_append]; omega
  have HL := hid hL
  clear hL
  go_upto_region 7 with (go_at_call 96; with_reducible refine Calls.mono HC2.out ?_; rintro e w2 ⟨v2, rfl, o2, b2⟩; have O2 := hid o2; have B2 := hid b2; clear o2 b2)
  have A2 := O2.out.at_ (by rw [List.length_append]; omega)
  obtain ⟨g2, c2, rfl, gB, cl, fz⟩ := A2
  have z1 := fz L.length
  obtain ⟨x, hx⟩ : ∃ x, (L ++ Lib.decDigits (unit + r))[L.length]? = some x := ⟨_, List.getElem?_eq_getElem (by rw [List.length_append]; omega)⟩
  have z2 := cl L.length x hx
  have O3 := hid (O2.out.set L.length (by rw [List.length_append]; omega) 46)
  have B3 := hid (O2.out.wt (B1.out.trans B2.out) L.length (46 : UInt8))
  have lt : (L.length : Int) < ((L ++ Lib.decDigits (unit + r)).length : Int) := by rw [List.length_append]; omega
  have FE := hid (show (L ++ Lib.decDigits (unit + r)).set L.length 46 = l ++ decU unit n from by rw [List.set_append_right _ _ (Nat.le_refl _), Nat.sub_self, PD.out, ← HL.out, List.append_assoc])
  rw [FE.out] at O3
  clear fz cl hx FE
  generalize (L ++ Lib.decDigits (unit + r)).length = M at *
  generalize L.length = m at *
  go_wp2_with fail
  go_ret
  exact ⟨_, rfl, O3.out, B3.out⟩
end Go.Proofs.YtiikdmnmfmfpdaaGreatDoor

namespace Go.Proofs.YtiikdmnmfmfpdaaGreatDoor
open Go.Shelf Go.RowKit
set_option linter.unusedVariables false
set_option linter.unusedSimpArgs false

theorem wp_addS {w : World} {o : Oper} {a : Act} {K : Act → World → Prop} {Q : Exit → Act → World → Prop} (sl x : Operand)
    (ho : o.op = .call { callee := .builtin .append, args := #[sl, x], argTypes := #[62, 9] }) (B : Nat) (v : Value) (l : List UInt8) (s : ByteArray) (hs : a.eval sl = v) (hown : Ob w B v l) (hx : a.eval x = .string s) (hl : l.length + s.size ≤ 1000000000)
    (h : ∀ v' w', Ob w' B v' (l ++ s.data.toList) → Wt B w w' → K (a.put o.dst v') w') : o.wp Tryz.prog a w K Q := by
  obtain ⟨i0, hi, hz0, hz1, hz2⟩ := info_parts byteInfo
  obtain ⟨v', w', hr, h2, h3, h4⟩ := Lib.run_append_own_string (P := Tryz.prog) w B 62 9 o.type 5 i0 Tryz.underlying62 Tryz.underlying9 hi hz0 hz1 hz2 v l.length (Lib.byteCells l) hown.own s (by unfold maxLen; omega) (by omega) hown.ba
  unfold Oper.wp execOp
  simp only [ho, resolve, invoke, builtin, Sem.run_bind, Sem.run_pure, Result.andThen_ok, List.map_toArray, List.map_cons, List.map_nil, hs, hx, hr]
  have hb := Wt.grown hown h3
  exact h v' w' ⟨by rw [List.length_append, bytes_app]; exact h2, Nat.le_trans hown.ba hb.bl.size⟩ hb
theorem wp_addC {w : World} {o : Oper} {a : Act} {K : Act → World → Prop} {Q : Exit → Act → World → Prop} (sl x : Operand)
    (ho : o.op = .call { callee := .builtin .append, args := #[sl, x], argTypes := #[62, 62] }) (B : Nat) (v : Value) (l : List UInt8) (ch : UInt8) (hs : a.eval sl = v) (hown : Ob w B v l) (g : Nat) (hx : a.eval x = .slice (some ⟨g, 0, none⟩) 1 1) (hc : w.cell? ⟨g, 0, none⟩ = some (.int .u8 ch.toNat)) (hl : l.length ≤ 1000000000)
    (h : ∀ v' w', Ob w' B v' (l ++ [ch]) → Wt B w w' → K (a.put o.dst v') w') : o.wp Tryz.prog a w K Q := by
  obtain ⟨i0, hi, hz0, hz1, hz2⟩ := info_parts byteInfo
  refine wp_append_own w sl x 62 ho B 5 i0 _ 1 1 Tryz.underlying62 hi hz0 hz1 hz2 rfl (by decide) v l.length (Lib.byteCells l) hs hown.own ⟨g, 0, none⟩ 1 1 [.int .u8 ch.toNat] hx rfl (fun j u hu => ?_) (fun u hu => ?_) (by unfold maxLen; omega) (by omega) hown.ba (fun v' w' h2 h3 _ => ?_)
  · cases j with
    | zero => simp at hu; subst hu; simpa [Addr.add] using hc
    | succ j => simp at hu
  · simp at hu; subst hu; rfl
  · have hb := Wt.grown hown h3
    exact h v' w' ⟨by rw [List.length_append, bytes_app]; exact h2, Nat.le_trans hown.ba hb.bl.size⟩ hb
/-- A node's box is no row of bytes: writing leaves it. -/
theorem box_wt {w w' : World} {B g : Nat} {arr : Array Value} {fz : Nat × Nat} (h : w.heap[g]? = some (.cells arr 26 fz)) (k : Wt B w w') : w'.heap[g]? = some (.cells arr 26 fz) :=
  k.ok g _ h (by simp) (fun c f e => by injection e with _ e _; revert e; decide)
/-- A literal's bytes. -/
def litS (kind n : Nat) : List UInt8 := if kind = 1 then (if n = 1 then [116, 114, 117, 101] else [102, 97, 108, 115, 101]) else if kind = 2 then Lib.decDigits n else if kind = 3 then 36 :: decU 100 n else decU 10000 n ++ [37]
set_option maxRecDepth 100000 in
set_option maxHeartbeats 2000000 in
theorem showLit_bool (B n : Nat) (nm : ByteArray) (pl : Int) (l : List UInt8) (v : Value) (w : World) (hn : n ≤ 1) (h : Ob w B v l) (hl : l.length ≤ 800000000) (hT : PT B w) :
    Calls Tryz.prog 49 #[v, .agg #[.string ⟨#[108, 105, 116]⟩, .string nm, .int .i64 1, .int .i64 (n : Nat), .int .i64 pl, .slice none 0 0]] w fun e w' => ∃ v', e = .returned v' ∧ Ob w' B v' (l ++ litS 1 n) ∧ Wt B w w' := by
  have hs := h.ba
  have B0 := hid (show Below w.heap.size w (w.alloc (.cells #[.string ⟨#[108, 105, 116]⟩, .string nm, .int .i64 1, .int .i64 (n : Nat), .int .i64 pl, .slice none 0 0] 26)) from (Below.refl _ _).alloc (Nat.le_refl _) _)
  have OB := hid (h.next B0.out)
  have BB := hid (Wt.of hs B0.out)
  have TH := hid (hT.on BB.out.bl)
  have HX := hid (show (w.alloc (.cells #[.string ⟨#[108, 105, 116]⟩, .string nm, .int .i64 1, .int .i64 (n : Nat), .int .i64 pl, .slice none 0 0] 26)).heap[w.heap.size]? = some (.cells #[.string ⟨#[108, 105, 116]⟩, .string nm, .int .i64 1, .int .i64 (n : Nat), .int .i64 pl, .slice none 0 0] 26) from heap_alloc_new w _)
  obtain ⟨c0, c1, c2, c3, c4, c5, cz⟩ := B6.new w 26 (.string ⟨#[108, 105, 116]⟩) (.string nm) (.int .i64 1) (.int .i64 (n : Nat)) (.int .i64 pl) (.slice none 0 0)
  clear h hT B0
  go_enter Tryz.func49, Tryz.ntmps49
  go_upto_region 1 with fail
  generalize World.alloc w _ = w1 at *
  generalize w.heap.size = g at *
  have KB := hid (fun w => boolText_any n w hn)
  obtain ⟨T, hTT⟩ : ∃ T : ByteArray, (if n = 1 then ⟨#[116, 114, 117, 101]⟩ else ⟨#[102, 97, 108, 115, 101]⟩) = T := ⟨_, rfl⟩
  have FE := hid (show litS 1 n = T.data.toList from by rw [← hTT]; unfold litS; rw [if_pos rfl]; split <;> rfl)
  have TS : T.size ≤ 5 := by rw [← hTT]; split <;> decide
  rw [hTT] at KB
  clear hTT
  go_wp2_with (first | (go_at_call 75; with_reducible refine Calls.mono (KB.out _) ?_; rintro e w2 ⟨rfl, rfl⟩) | (at_builtin; refine wpList_addS rfl (.tmp 14) (.tmp 17) rfl B v l T rfl OB.out rfl (by omega) ?_; intro v2 w2 o2 b2))
  go_ret
  exact ⟨v2, rfl, by rw [FE.out]; exact o2, BB.out.trans b2⟩
set_option maxRecDepth 100000 in
set_option maxHeartbeats 2000000 in
theorem showLit_count (B n : Nat) (nm : ByteArray) (pl : Int) (l : List UInt8) (v : Value) (w : World) (hn : n < 9223372036854775808) (h : Ob w B v l) (hl : l.length ≤ 800000000) (hT : PT B w) :
    Calls Tryz.prog 49 #[v, .agg #[.string ⟨#[108, 105, 116]⟩, .string nm, .int .i64 2, .int .i64 (n : Nat), .int .i64 pl, .slice none 0 0]] w fun e w' => ∃ v', e = .returned v' ∧ Ob w' B v' (l ++ litS 2 n) ∧ Wt B w w' := by
  have hs := h.ba
  have B0 := hid (show Below w.heap.size w (w.alloc (.cells #[.string ⟨#[108, 105, 116]⟩, .string nm, .int .i64 2, .int .i64 (n : Nat), .int .i64 pl, .slice none 0 0] 26)) from (Below.refl _ _).alloc (Nat.le_refl _) _)
  have OB := hid (h.next B0.out)
  have BB := hid (Wt.of hs B0.out)
  have TH := hid (hT.on BB.out.bl)
  have HX := hid (show (w.alloc (.cells #[.string ⟨#[108, 105, 116]⟩, .string nm, .int .i64 2, .int .i64 (n : Nat), .int .i64 pl, .slice none 0 0] 26)).heap[w.heap.size]? = some (.cells #[.string ⟨#[108, 105, 116]⟩, .string nm, .int .i64 2, .int .i64 (n : Nat), .int .i64 pl, .slice none 0 0] 26) from heap_alloc_new w _)
  obtain ⟨c0, c1, c2, c3, c4, c5, cz⟩ := B6.new w 26 (.string ⟨#[108, 105, 116]⟩) (.string nm) (.int .i64 2) (.int .i64 (n : Nat)) (.int .i64 pl) (.slice none 0 0)
  clear h hT B0
  go_enter Tryz.func49, Tryz.ntmps49
  go_upto_region 1 with fail
  generalize World.alloc w _ = w1 at *
  generalize w.heap.size = g at *
  have KB := hid (show Calls Tryz.prog 76 #[v, .int .i64 (n : Nat), .int .i64 10] w1 (fun e w' => ∃ v', e = .returned v' ∧ w'.ownsRow B 5 1 v' (l.length + (Lib.itoa (n : Nat)).length) (Lib.byteCells l ++ Lib.byteCells (Lib.itoa (n : Nat))) ∧ Below B w1 w' ∧ Lib.OthersKept 5 none w1 w') from Any.strconv_AppendInt_10 laysI B l.length (n : Nat) (by omega) (by omega) v (Lib.byteCells l) w1 OB.out.own OB.out.ba (by omega) TH.out)
  have FE := hid (show litS 2 n = Lib.itoa (n : Nat) from by unfold litS Lib.itoa; rw [if_neg (by decide), if_pos rfl, if_neg (by omega)]; rfl)
  go_wp2_with (go_at_call 76; with_reducible refine Calls.mono KB.out ?_; rintro e w2 ⟨v2, rfl, o2, b2, k2⟩)
  go_ret
  exact ⟨v2, rfl, ⟨by rw [FE.out, List.length_append, bytes_app]; exact o2, Nat.le_trans OB.out.ba b2.size⟩, BB.out.trans ⟨b2, k2⟩⟩
set_option maxRecDepth 100000 in
set_option maxHeartbeats 2000000 in
theorem showLit_money (B n : Nat) (nm : ByteArray) (pl : Int) (l : List UInt8) (v : Value) (w : World) (hn : n < 9223372036854775808) (h : Ob w B v l) (hl : l.length ≤ 800000000) (hT : PT B w) :
    Calls Tryz.prog 49 #[v, .agg #[.string ⟨#[108, 105, 116]⟩, .string nm, .int .i64 3, .int .i64 (n : Nat), .int .i64 pl, .slice none 0 0]] w fun e w' => ∃ v', e = .returned v' ∧ Ob w' B v' (l ++ litS 3 n) ∧ Wt B w w' := by
  have hs := h.ba
  have B0 := hid (show Below w.heap.size w (w.alloc (.cells #[.string ⟨#[108, 105, 116]⟩, .string nm, .int .i64 3, .int .i64 (n : Nat), .int .i64 pl, .slice none 0 0] 26)) from (Below.refl _ _).alloc (Nat.le_refl _) _)
  have OB := hid (h.next B0.out)
  have BB := hid (Wt.of hs B0.out)
  have TH := hid (hT.on BB.out.bl)
  have HX := hid (show (w.alloc (.cells #[.string ⟨#[108, 105, 116]⟩, .string nm, .int .i64 3, .int .i64 (n : Nat), .int .i64 pl, .slice none 0 0] 26)).heap[w.heap.size]? = some (.cells #[.string ⟨#[108, 105, 116]⟩, .string nm, .int .i64 3, .int .i64 (n : Nat), .int .i64 pl, .slice none 0 0] 26) from heap_alloc_new w _)
  obtain ⟨c0, c1, c2, c3, c4, c5, cz⟩ := B6.new w 26 (.string ⟨#[108, 105, 116]⟩) (.string nm) (.int .i64 3) (.int .i64 (n : Nat)) (.int .i64 pl) (.slice none 0 0)
  clear h hT B0
  go_enter Tryz.func49, Tryz.ntmps49
  go_upto_region 1 with fail
  generalize World.alloc w _ = w1 at *
  generalize w.heap.size = g at *
  have FE := hid (show l ++ litS 3 n = (l ++ [36]) ++ decU 100 n from by unfold litS; rw [if_neg (by decide), if_neg (by decide), if_pos rfl, List.append_assoc]; rfl)
  go_upto_region 9 with fail
  refine wp_region_held_drew (S := (fun W => W.cell? ⟨g, 3, none⟩ = some (.int .i64 (n : Nat)))) (by kernel_rfl) c3 (fun hHeld => ?_)
  have O0 := hid (show Ob w1.drew B v l from OB.out.next (Below.refl _ _).drew)
  have B0 := hid (show Wt B w w1.drew from BB.out.next OB.out.ba (Below.refl _ _).drew)
  have T0 := hid (TH.out.on (show Below B w1 w1.drew from (Below.refl _ _).drew))
  have H0 := hid (show w1.drew.heap[g]? = _ from HX.out)
  generalize w1.drew = wz at *
  refine take2 rfl (i := 0) (v := v) (d := 27) rfl rfl (by kernel_rfl) (by kernel_rfl) (by kernel_rfl) (fun _ _ _ h => h) (Or.inl ⟨by rfl, ?_⟩) hHeld ?_
  · (intro W hW; (try dsimp only at hW); go_simp)
  try simp only [Act.put, List.setIfInBounds_toArray, List.set_cons_zero, List.set_cons_succ]
  refine take2 rfl (i := 1) (v := .pointer (some ⟨g, 3, none⟩)) (d := 28) rfl rfl (by kernel_rfl) (by kernel_rfl) (by kernel_rfl) (fun _ _ _ h => h) (Or.inl ⟨by rfl, ?_⟩) hHeld ?_
  · (intro W hW; (try dsimp only at hW); go_simp)
  try simp only [Act.put, List.setIfInBounds_toArray, List.set_cons_zero, List.set_cons_succ]
  refine take2 rfl (i := 2) (v := .int .i64 (n : Nat)) (d := 29) rfl rfl (by kernel_rfl) (by kernel_rfl) (by kernel_rfl) (fun _ _ _ h => h) (Or.inl ⟨by rfl, ?_⟩) hHeld ?_
  · (intro W hW; (try dsimp only at hW); go_simp)
  try simp only [Act.put, List.setIfInBounds_toArray, List.set_cons_zero, List.set_cons_succ]
  refine take2 rfl (i := 6) (v := .pointer (some ⟨g, 3, none⟩)) (d := 33) rfl rfl (by kernel_rfl) (by kernel_rfl) (by kernel_rfl) (fun _ _ _ h => h) (Or.inl ⟨by rfl, ?_⟩) hHeld ?_
  · (intro W hW; (try dsimp only at hW); go_simp)
  try simp only [Act.put, List.setIfInBounds_toArray, List.set_cons_zero, List.set_cons_succ]
  refine take2 rfl (i := 7) (v := .int .i64 (n : Nat)) (d := 34) rfl rfl (by kernel_rfl) (by kernel_rfl) (by kernel_rfl) (fun _ _ _ h => h) (Or.inl ⟨by rfl, ?_⟩) hHeld ?_
  · (intro W hW; (try dsimp only at hW); go_simp)
  try simp only [Act.put, List.setIfInBounds_toArray, List.set_cons_zero, List.set_cons_succ]
  refine wpAnyH_ready (rs := [3]) (by kernel_rfl) (by simp) ?_
  refine cons2 rfl rfl (fun K9 hK => ?_)
  go_simp
  go_at_call 78
  refine Calls.mono (sign_pos n wz) ?_
  rintro e w5 ⟨rfl, rfl⟩
  go_wp2_with fail
  refine hK.out _ _ (hHeld) (fun hX => ?_)
  clear hK K9 hHeld
  have hHeld := hX
  clear hX
  try simp only [Act.put, List.setIfInBounds_toArray, List.set_cons_zero, List.set_cons_succ]
  refine take2 rfl (i := 4) (v := .string (⟨#[]⟩ ++ ⟨#[36]⟩)) (d := 31) rfl rfl (by kernel_rfl) (by kernel_rfl) (by kernel_rfl) (fun _ _ _ h => h) (Or.inl ⟨by rfl, ?_⟩) hHeld ?_
  · (intro W hW; (try dsimp only at hW); go_simp)
  try simp only [Act.put, List.setIfInBounds_toArray, List.set_cons_zero, List.set_cons_succ]
  refine wpAnyH_ready (rs := [5]) (by kernel_rfl) (by simp) ?_
  refine cons2 rfl rfl (fun K9 hK => ?_)
  rw [if_pos (by kernel_rfl)]
  refine wp_addS (.tmp 27) (.tmp 31) rfl B v l (⟨#[]⟩ ++ ⟨#[36]⟩) rfl O0.out rfl (by show l.length + 1 ≤ _; omega) ?_
  intro v2 w2 o2 b2
  rw [show (⟨#[]⟩ ++ ⟨#[36]⟩ : ByteArray).data.toList = [36] from by decide] at o2
  have O2 := hid o2
  have H2 := hid (box_wt H0.out b2)
  have C2 := hid (World.cell?_of_block (a := ⟨g, 3, none⟩) (H2.out.trans H0.out.symm))
  have T2 := hid (T0.out.on b2.bl)
  have BB2 := hid (B0.out.trans b2)
  clear o2 b2
  refine hK.out _ _ (C2.out.trans hHeld) (fun hX => ?_)
  clear hK K9 hHeld
  have hHeld := hX
  clear hX
  try simp only [Act.put, List.setIfInBounds_toArray, List.set_cons_zero, List.set_cons_succ]
  refine wpAnyH_ready (rs := [8]) (by kernel_rfl) (by simp) ?_
  refine cons2 rfl rfl (fun K9 hK => ?_)
  go_simp
  go_at_call 77
  refine Calls.mono (decimal_any B n 100 (l ++ [36]) v2 w2 (by omega) (by decide) (by decide) O2.out (by rw [List.length_append]; simp; omega) T2.out) ?_
  rintro e w5 ⟨v5, rfl, o5, b5⟩
  have O5 := hid o5
  have C5 := hid (World.cell?_of_block (a := ⟨g, 3, none⟩) ((box_wt H2.out b5).trans H2.out.symm))
  have BB5 := hid (BB2.out.trans b5)
  clear o5 b5
  go_wp2_with fail
  refine hK.out _ _ (C5.out.trans hHeld) (fun hX => ?_)
  clear hK K9 hHeld
  have hHeld := hX
  clear hX
  try simp only [Act.put, List.setIfInBounds_toArray, List.set_cons_zero, List.set_cons_succ]
  refine take2 rfl (i := 9) (v := v5) (d := 4) rfl rfl (by kernel_rfl) (by kernel_rfl) (by kernel_rfl) (fun _ _ _ h => h) (Or.inl ⟨by rfl, ?_⟩) hHeld ?_
  · (intro W hW; (try dsimp only at hW); go_simp)
  try simp only [Act.put, List.setIfInBounds_toArray, List.set_cons_zero, List.set_cons_succ]
  refine wpAnyH_done (by kernel_rfl) ?_ _
  go_wp2
  go_ret
  exact ⟨v5, rfl, by rw [FE.out]; exact O5.out, BB5.out⟩
end Go.Proofs.YtiikdmnmfmfpdaaGreatDoor

namespace Go.Proofs.YtiikdmnmfmfpdaaGreatDoor
open Go.Shelf Go.RowKit
set_option linter.unusedVariables false
set_option linter.unusedSimpArgs false

/-- How a node is written. -/
def patF (op : ByteArray) (m : Nat) : ByteArray := if (eqB op ⟨#[105, 110, 112, 117, 116]⟩) = true then ⟨#[105, 110, 112, 117, 116, 32, 78, 32, 75, 59]⟩ else if (eqB op ⟨#[114, 117, 108, 101]⟩) = true then ⟨#[114, 117, 108, 101, 32, 78, 32, 75, 32, 61, 32, 69, 59]⟩ else if (eqB op ⟨#[114, 111, 119]⟩) = true then (if m = 1 then ⟨#[101, 108, 115, 101, 32, 69]⟩ else ⟨#[69, 58, 32, 69, 44, 32]⟩) else if (eqB op ⟨#[110, 97, 109, 101]⟩) = true then ⟨#[78]⟩ else if (eqB op ⟨#[105, 102]⟩) = true then ⟨#[40, 105, 102, 32, 69, 32, 116, 104, 101, 110, 32, 69, 32, 101, 108, 115, 101, 32, 69, 41]⟩ else if (eqB op ⟨#[43]⟩ || eqB op ⟨#[45]⟩ || eqB op ⟨#[42]⟩ || eqB op ⟨#[47]⟩ || eqB op ⟨#[60]⟩ || eqB op ⟨#[60, 61]⟩ || eqB op ⟨#[62]⟩ || eqB op ⟨#[62, 61]⟩ || eqB op ⟨#[61, 61]⟩ || eqB op ⟨#[33, 61]⟩ || eqB op ⟨#[97, 110, 100]⟩ || eqB op ⟨#[111, 114]⟩) = true then ⟨#[40, 69, 32, 79, 32, 69, 41]⟩ else if (eqB op ⟨#[110, 101, 103]⟩) = true then ⟨#[40, 45, 32, 69, 41]⟩ else if (eqB op ⟨#[110, 111, 116]⟩) = true then ⟨#[40, 110, 111, 116, 32, 69, 41]⟩ else if (eqB op ⟨#[109, 105, 110]⟩ || eqB op ⟨#[109, 97, 120]⟩) = true then ⟨#[79, 40, 69, 44, 32, 69, 41]⟩ else if (eqB op ⟨#[108, 101, 110]⟩) = true then ⟨#[108, 101, 110, 40, 69, 41]⟩ else if (eqB op ⟨#[97, 116]⟩) = true then ⟨#[97, 116, 40, 78, 44, 32, 69, 41]⟩ else if (eqB op ⟨#[115, 117, 109]⟩) = true then ⟨#[115, 117, 109, 40, 78, 32, 105, 110, 32, 69, 58, 32, 69, 41]⟩ else ⟨#[]⟩
set_option maxRecDepth 100000 in
set_option maxHeartbeats 4000000 in
theorem pattern_any (op nm : ByteArray) (kd n pl : Int) (sa : Option Addr) (sm sc : Nat) (w : World) :
    Calls Tryz.prog 51 #[.agg #[.string op, .string nm, .int .i64 kd, .int .i64 n, .int .i64 pl, .slice sa sm sc]] w fun e w' => e = .returned (.string (patF op sm)) ∧ Below w.heap.size w w' := by
  obtain ⟨P, hP⟩ : ∃ P, patF op sm = P := ⟨_, rfl⟩
  have E := hid (show P = if (op.toList == [105, 110, 112, 117, 116]) = true then ⟨#[105, 110, 112, 117, 116, 32, 78, 32, 75, 59]⟩ else if (op.toList == [114, 117, 108, 101]) = true then ⟨#[114, 117, 108, 101, 32, 78, 32, 75, 32, 61, 32, 69, 59]⟩ else if (op.toList == [114, 111, 119]) = true then (if (sm : Int) = 1 then ⟨#[101, 108, 115, 101, 32, 69]⟩ else ⟨#[69, 58, 32, 69, 44, 32]⟩) else if (op.toList == [110, 97, 109, 101]) = true then ⟨#[78]⟩ else if (op.toList == [105, 102]) = true then ⟨#[40, 105, 102, 32, 69, 32, 116, 104, 101, 110, 32, 69, 32, 101, 108, 115, 101, 32, 69, 41]⟩ else if (op.toList == [43] || op.toList == [45] || op.toList == [42] || op.toList == [47] || op.toList == [60] || op.toList == [60, 61] || op.toList == [62] || op.toList == [62, 61] || op.toList == [61, 61] || op.toList == [33, 61] || op.toList == [97, 110, 100] || op.toList == [111, 114]) = true then ⟨#[40, 69, 32, 79, 32, 69, 41]⟩ else if (op.toList == [110, 101, 103]) = true then ⟨#[40, 45, 32, 69, 41]⟩ else if (op.toList == [110, 111, 116]) = true then ⟨#[40, 110, 111, 116, 32, 69, 41]⟩ else if (op.toList == [109, 105, 110] || op.toList == [109, 97, 120]) = true then ⟨#[79, 40, 69, 44, 32, 69, 41]⟩ else if (op.toList == [108, 101, 110]) = true then ⟨#[108, 101, 110, 40, 69, 41]⟩ else if (op.toList == [97, 116]) = true then ⟨#[97, 116, 40, 78, 44, 32, 69, 41]⟩ else if (op.toList == [115, 117, 109]) = true then ⟨#[115, 117, 109, 40, 78, 32, 105, 110, 32, 69, 58, 32, 69, 41]⟩ else ⟨#[]⟩ from by
    rw [← hP]
    simp only [eqL]
    unfold patF
    have e : ((sm : Int) = 1) = (sm = 1) := by simp; omega
    simp only [e])
  rw [hP]
  clear hP
  have B0 := hid (show Below w.heap.size w (w.alloc (.cells #[.string op, .string nm, .int .i64 kd, .int .i64 n, .int .i64 pl, .slice sa sm sc] 26)) from (Below.refl _ _).alloc (Nat.le_refl _) _)
  obtain ⟨c0, c1, c2, c3, c4, c5, cz⟩ := B6.new w 26 (.string op) (.string nm) (.int .i64 kd) (.int .i64 n) (.int .i64 pl) (.slice sa sm sc)
  go_enter Tryz.func51, Tryz.ntmps51
  go_upto_region 1 with fail
  generalize World.alloc w _ = w1 at *
  go_wp2_with fail
  all_goals go_ret
  all_goals refine ⟨congrArg (fun b => Ending.returned (Value.string b)) ?_, B0.out⟩
  all_goals (clear c0 c1 c2 c3 c4 c5 cz B0; rw [E.out]; simp_all)
end Go.Proofs.YtiikdmnmfmfpdaaGreatDoor

namespace Go.Proofs.YtiikdmnmfmfpdaaGreatDoor
open Go.Shelf Go.RowKit
set_option linter.unusedVariables false
set_option linter.unusedSimpArgs false

/-- A pattern filled: the kids' bytes are given. -/
def fillS (op nm : ByteArray) (kd : Nat) : List UInt8 → List (List UInt8) → List UInt8
  | [], _ => []
  | c :: p, ks =>
    if c = 79 then op.data.toList ++ fillS op nm kd p ks
    else if c = 78 then nm.data.toList ++ fillS op nm kd p ks
    else if c = 75 then (kNm kd).data.toList ++ fillS op nm kd p ks
    else if c = 69 then (match ks with | [] => fillS op nm kd p [] | k :: ks => k ++ fillS op nm kd p ks)
    else c :: fillS op nm kd p ks
def okP (p : ByteArray) (kd m : Nat) : Bool := decide ((m : Int) = Lib.countByte p.data.toList 69) && (!(decide (0 ≤ Lib.indexByte p.data.toList 75)) || (decide (1 ≤ kd) && decide (kd ≤ 6)))
mutual
def shw : Tr → List UInt8
  | .nd op nm kd n a ks =>
    if eqB op ⟨#[115, 116, 97, 116, 117, 116, 101]⟩ then shwL ks
    else if eqB op ⟨#[108, 105, 116]⟩ then litS kd n.toNat
    else if okP (patF op ks.length) kd ks.length then fillS op nm kd (patF op ks.length).data.toList (shwK ks) else []
def shwK : List Tr → List (List UInt8)
  | [] => []
  | t :: ts => shw t :: shwK ts
def shwL : List Tr → List UInt8
  | [] => []
  | t :: ts => shw t ++ [10] ++ shwL ts
end
/-- Trees that show is proved for: literals are plain, and there are no tables in them. -/
inductive Sg : Tr → Prop
  | lit (nm : ByteArray) (kd n a : Nat) (hk : kd = 1 ∧ n ≤ 1 ∨ kd = 2 ∧ n < 9223372036854775808 ∨ kd = 3 ∧ n < 9223372036854775808) : Sg (.nd ⟨#[108, 105, 116]⟩ nm kd (n : Nat) a [])
  | nd (op nm : ByteArray) (kd : Nat) (n : Int) (a : Nat) (ks : List Tr) (h1 : eqB op ⟨#[108, 105, 116]⟩ = false) (h2 : eqB op ⟨#[116, 97, 98, 108, 101]⟩ = false) (hk : ∀ t ∈ ks, Sg t) : Sg (.nd op nm kd n a ks)
theorem t1 : shw (.nd ⟨#[43]⟩ ⟨#[]⟩ 0 0 3 [.nd ⟨#[110, 97, 109, 101]⟩ ⟨#[120]⟩ 0 0 1 [], .nd ⟨#[110, 97, 109, 101]⟩ ⟨#[121]⟩ 0 0 5 []]) = [40, 120, 32, 43, 32, 121, 41] := by decide +kernel
end Go.Proofs.YtiikdmnmfmfpdaaGreatDoor

namespace Go.Proofs.YtiikdmnmfmfpdaaGreatDoor
open Go.Shelf Go.RowKit
set_option linter.unusedVariables false
set_option linter.unusedSimpArgs false

/-- What show writes of a tree. -/
def SC (B : Nat) (t : Tr) : Prop := ∀ (w : World) (l : List UInt8) (v : Value) (sa : Option Addr) (sm sc : Nat), Nd w (fun g => g < B) (.slice sa sm sc) t.kids → Ob w B v l → PT B w → KT w → l.length + (shw t).length ≤ 100000000 →
  Calls Tryz.prog 21 #[v, .agg #[.string t.op, .string t.name, .int .i64 (t.kind : Nat), .int .i64 t.n, .int .i64 (t.pl : Nat), .slice sa sm sc]] w fun e w' => ∃ v', e = .returned v' ∧ Ob w' B v' (l ++ shw t) ∧ Wt B w w'
theorem Nd.wt {w w' : World} {B : Nat} {v : Value} {ts : List Tr} (h : Nd w (fun g => g < B) v ts) (k : Wt B w w') : Nd w' (fun g => g < B) v ts := h.keep fun g s l => ⟨s, k.bl.block g s⟩
theorem KT.wt {w w' : World} {B : Nat} (h : KT w) (k : Wt B w w') (hB : 1 < B) : KT w' := h.keep (k.bl.block _ hB) k.bl.size
theorem qsame2 {P : Program} {f : FuncId} {args : Array Value} {w : World} {n : Nat} {v : Value} (h : ∀ w, Calls P f args w fun e w' => e = .returned v ∧ w' = w) : Calls P f args (w.drewN n) fun e w'' => e = .returned v ∧ ∃ m, w'' = w.drewN m :=
  (h _).mono fun _ _ ⟨he, hm⟩ => ⟨he, n, hm⟩
theorem qkind {w : World} {kd : Nat} (n : Nat) (hk : kd ≤ 1000000) (h : KT w) : Calls Tryz.prog 74 #[.int .i64 (kd : Nat)] (w.drewN n) fun e w'' => e = .returned (.string (kNm kd)) ∧ ∃ m, w'' = w.drewN m :=
  (kindName_any kd _ hk (h.next (drewN_below w n))).mono fun _ _ ⟨he, hm⟩ => ⟨he, n, hm.symm⟩
theorem nn {a b : UInt8} (h : ¬ a = b) : (a.toNat : Int) ≠ (b.toNat : Int) := fun e => h (UInt8.toNat_inj.1 (by omega))
theorem Nd.at_ {w : World} {S : Nat → Prop} {sa : Option Addr} {sm sc : Nat} {ts : List Tr} (h : Nd w S (.slice sa sm sc) ts) (j : Nat) (t : Tr) (e : ts[j]? = some t) : ∃ (g : Nat) (a : Option Addr) (m c : Nat), sa = some ⟨g, 0, none⟩ ∧ sm = ts.length ∧ NC w g (j * 6) t (.slice a m c) ∧ Nd w S (.slice a m c) t.kids := by
  cases h with
  | nil => simp at e
  | row g c ts sl hs h0 hc hk =>
    obtain ⟨a, m, c', q⟩ := (hk j t e).sl
    have h1 := hc j t e
    have h2 := hk j t e
    rw [q] at h1 h2
    exact ⟨g, a, m, c', rfl, rfl, h1, h2⟩
set_option maxRecDepth 100000 in
set_option maxHeartbeats 4000000 in
theorem fill_any (B : Nat) (op nm p : ByteArray) (kd : Nat) (n pl : Int) (ks : List Tr) (sa : Option Addr) (sm sc : Nat) (l : List UInt8) (v : Value) (w : World) (hB : 1 < B) (hp : p.size ≤ 100) (hok : okP p kd ks.length = true) (hkd : kd ≤ 1000000)
    (hS : ∀ t ∈ ks, SC B t) (hN : Nd w (fun g => g < B) (.slice sa sm sc) ks) (h : Ob w B v l) (hT : PT B w) (hK : KT w) (hl : l.length + (fillS op nm kd p.data.toList (shwK ks)).length ≤ 100000000) :
    Calls Tryz.prog 50 #[v, .agg #[.string op, .string nm, .int .i64 (kd : Nat), .int .i64 n, .int .i64 pl, .slice sa sm sc], .string p] w fun e w' => ∃ v', e = .returned v' ∧ Ob w' B v' (l ++ fillS op nm kd p.data.toList (shwK ks)) ∧ Wt B w w' := by
  have hs := h.ba
  have ml : sm = ks.length := by cases hN <;> rfl
  have B0 := hid (show Below w.heap.size w (w.alloc (.cells #[.string op, .string nm, .int .i64 (kd : Nat), .int .i64 n, .int .i64 pl, .slice sa sm sc] 26)) from (Below.refl _ _).alloc (Nat.le_refl _) _)
  have OB := hid (h.next B0.out)
  have BB := hid (Wt.of hs B0.out)
  have TH := hid (hT.on BB.out.bl)
  have KH := hid (hK.next B0.out)
  have NH := hid (hN.wt BB.out)
  have SH := hid hS
  have HX := hid (show (w.alloc (.cells #[.string op, .string nm, .int .i64 (kd : Nat), .int .i64 n, .int .i64 pl, .slice sa sm sc] 26)).heap[w.heap.size]? = some (.cells #[.string op, .string nm, .int .i64 (kd : Nat), .int .i64 n, .int .i64 pl, .slice sa sm sc] 26) from heap_alloc_new w _)
  obtain ⟨c0, c1, c2, c3, c4, c5, cz⟩ := B6.new w 26 (.string op) (.string nm) (.int .i64 (kd : Nat)) (.int .i64 n) (.int .i64 pl) (.slice sa sm sc)
  unfold okP at hok
  rw [Bool.and_eq_true] at hok
  obtain ⟨ok1, ok2⟩ := hok
  have ok1 := of_decide_eq_true ok1
  have CE := hid (fun w => (show Calls Tryz.prog 80 #[.string p, .string ⟨#[69]⟩] w (fun e w' => e = .returned (.int .i64 (ks.length : Nat)) ∧ w' = w) from by have := Any.strings_Count_one laysC p 69 w; rw [← ok1] at this; exact this))
  obtain ⟨kb, hkb⟩ : ∃ kb, decide (0 ≤ Lib.indexByte p.data.toList 75) = kb := ⟨_, rfl⟩
  have CK := hid (fun w => (show Calls Tryz.prog 81 #[.string p, .string ⟨#[75]⟩] w (fun e w' => e = .returned (.bool kb) ∧ w' = w) from by have := Any.strings_Contains_one laysT p 75 w; rw [hkb] at this; exact this))
  rw [hkb] at ok2
  have CN := hid (show (p.data.toList.count 69 : Nat) = ks.length from by have : ((ks.length : Nat) : Int) = Lib.countByte p.data.toList 69 := ok1; unfold Lib.countByte at this; omega)
  have ksl : ks.length ≤ 100 := by
    have := CN.out
    have : p.data.toList.count 69 ≤ p.data.toList.length := List.count_le_length
    have e : p.data.toList.length = p.size := by simp
    omega
  obtain ⟨F, hF⟩ : ∃ F, fillS op nm kd p.data.toList (shwK ks) = F := ⟨_, rfl⟩
  rw [hF] at hl ⊢
  have FH := hid hF
  clear h hT hN hK hS B0 hF ok1 hkb
  subst ml
  go_enter Tryz.func50, Tryz.ntmps50
  go_upto_region 1 with fail
  generalize World.alloc w _ = w1 at *
  have KN := hid (fun n => qkind n hkd KH.out)
  obtain ⟨T, hTT⟩ : ∃ T, kNm kd = T := ⟨_, rfl⟩
  have TE := hid hTT
  rw [hTT] at KN
  have UE : kb = true → (T.toList == []) = false := fun z => by
    rw [z] at ok2
    have ok2 : (decide (1 ≤ kd) && decide (kd ≤ 6)) = true := by simpa using ok2
    rw [Bool.and_eq_true] at ok2
    have a1 := of_decide_eq_true ok2.1
    have a2 := of_decide_eq_true ok2.2
    rw [← hTT, eqL]
    have key : ∀ i : Fin 7, 1 ≤ i.val → eqB (kNm i.val) ⟨#[]⟩ = false := by decide
    exact key ⟨kd, by omega⟩ a1
  clear hTT
  have QR : ∃ nq, True := ⟨0, trivial⟩
  go_cut [25] from 10 to 25 (fun sx wx => sx = .bool false ∧ Hid (∃ nq, wx = w1.drewN nq))
  case first =>
    cases kb with
    | false =>
      go_quiet (first | (go_at_call 80; with_reducible exact qsame2 CE.out) | (go_at_call 81; with_reducible exact qsame2 CK.out))
      go_wp2
      go_meet
      exact ⟨rfl, _, rfl⟩
    | true =>
      have ue := UE rfl
      go_quiet (first | (go_at_call 80; with_reducible exact qsame2 CE.out) | (go_at_call 81; with_reducible exact qsame2 CK.out) | (go_at_call 74; with_reducible exact KN.out _))
      go_wp2
      go_meet
      exact ⟨rfl, _, rfl⟩
  case rest =>
    obtain ⟨rfl, ⟨nq, hwx⟩⟩ := hcut
    have W0 := hid (Wt.of OB.out.ba (show Below w1.heap.size w1 wc from by rw [hwx]; exact drewN_below w1 nq))
    have OC := hid (OB.out.next (show Below w1.heap.size w1 wc from by rw [hwx]; exact drewN_below w1 nq))
    clear hwx
    go_upto_region 5 with fail
    go_loopg [0, 7, 29] (p.size + 1) (fun g bv nv iv wr => ∃ (i j : Nat) (ld : List UInt8) (b0 : Value), b0 = bv ∧ i ≤ p.size ∧ g = p.size + 1 - i ∧ nv = .int .i64 (j : Nat) ∧ iv = .int .i64 (i : Nat) ∧ Hid (Ob wr B bv (l ++ ld)) ∧ Hid (Wt B w1 wr) ∧ Hid (ld ++ fillS op nm kd (tl p i) (shwK (ks.drop j)) = F ∧ j + (tl p i).count 69 = ks.length))
    case atStart => exact ⟨0, 0, [], _, rfl, Nat.zero_le _, rfl, rfl, rfl, by rw [List.append_nil]; exact OC, W0, FH.out, by have := CN.out; rw [Nat.zero_add]; exact this⟩
    case round =>
      clear OC W0 OB FH CN CE CK
      obtain ⟨i, j, ld, bv, rfl, hi, rfl, rfl, rfl, OW, WW, EH⟩ := hrel
      have HXr := hid (box_wt HX.out WW.out)
      have cc : ∀ k x, (#[.string op, .string nm, .int .i64 (kd : Nat), .int .i64 n, .int .i64 pl, .slice sa ks.length sc] : Array Value)[k]? = some x → wr.cell? ⟨w.heap.size, k, none⟩ = some x := fun k x e => by simp [World.cell?, HXr.out, e]
      have e0 := cc 0 _ rfl
      have e1 := cc 1 _ rfl
      have e2 := cc 2 _ rfl
      have e3 := cc 3 _ rfl
      have e4 := cc 4 _ rfl
      have e5 := cc 5 _ rfl
      clear cc
      by_cases q : i < p.size
      · have q' : (i : Int) < (p.size : Int) := by omega
        have pl100 : (p.size : Int) ≤ 100 := by omega
        have xi := congrArg (fun c : UInt8 => (c.toNat : Int)) (bt_at q)
        by_cases y1 : bt p i = 79
        · have y := y1
          have HE := hid (show (ld ++ op.data.toList) ++ fillS op nm kd (tl p (i + 1)) (shwK (ks.drop j)) = F from by rw [← EH.out.1, tl_cons q, y, List.append_assoc]; rfl)
          have HC := hid (show j + (tl p (i + 1)).count 69 = ks.length from by have := EH.out.2; rw [tl_cons q, y] at this; simpa using this)
          have lF : ld.length + op.size ≤ F.length := by have := congrArg List.length HE.out; simp only [List.length_append] at this; have e : op.data.toList.length = op.size := (by simp); omega
          rw [y] at xi
          clear y
          go_wp2_with (at_builtin; refine wpList_addS rfl (.tmp 42) (.tmp 44) rfl B bv (l ++ ld) op rfl OW.out rfl (by rw [List.length_append]; omega) ?_; intro v2 w2 o2 b2; have O2 := hid (show Ob w2 B v2 (l ++ (ld ++ op.data.toList)) from by rw [← List.append_assoc]; exact o2); have W2 := hid (WW.out.trans b2); clear o2 b2)
          go_roundg (p.size + 1 - (i + 1))
          case measure => omega
          case rel => exact ⟨i + 1, j, ld ++ op.data.toList, _, rfl, by omega, rfl, rfl, by rw [Int.natCast_add]; rfl, O2, W2, HE.out, HC.out⟩

        · by_cases y2 : bt p i = 78
          · have y := y2
            have HE := hid (show (ld ++ nm.data.toList) ++ fillS op nm kd (tl p (i + 1)) (shwK (ks.drop j)) = F from by rw [← EH.out.1, tl_cons q, y, List.append_assoc]; rfl)
            have HC := hid (show j + (tl p (i + 1)).count 69 = ks.length from by have := EH.out.2; rw [tl_cons q, y] at this; simpa using this)
            have lF : ld.length + nm.size ≤ F.length := by have := congrArg List.length HE.out; simp only [List.length_append] at this; have e : nm.data.toList.length = nm.size := (by simp); omega
            rw [y] at xi
            clear y
            go_wp2_with (at_builtin; refine wpList_addS rfl (.tmp 48) (.tmp 50) rfl B bv (l ++ ld) nm rfl OW.out rfl (by rw [List.length_append]; omega) ?_; intro v2 w2 o2 b2; have O2 := hid (show Ob w2 B v2 (l ++ (ld ++ nm.data.toList)) from by rw [← List.append_assoc]; exact o2); have W2 := hid (WW.out.trans b2); clear o2 b2)
            go_roundg (p.size + 1 - (i + 1))
            case measure => omega
            case rel => exact ⟨i + 1, j, ld ++ nm.data.toList, _, rfl, by omega, rfl, rfl, by rw [Int.natCast_add]; rfl, O2, W2, HE.out, HC.out⟩

          · by_cases y3 : bt p i = 75
            · have y := y3
              have HE := hid (show (ld ++ T.data.toList) ++ fillS op nm kd (tl p (i + 1)) (shwK (ks.drop j)) = F from by rw [← EH.out.1, tl_cons q, y, List.append_assoc, ← TE.out]; rfl)
              have HC := hid (show j + (tl p (i + 1)).count 69 = ks.length from by have := EH.out.2; rw [tl_cons q, y] at this; simpa using this)
              have lF : ld.length + T.size ≤ F.length := by have := congrArg List.length HE.out; simp only [List.length_append] at this; have e : T.data.toList.length = T.size := (by simp); omega
              rw [y] at xi
              clear y
              have KN2 := hid (kindName_any kd wr hkd (KH.out.wt WW.out hB))
              rw [TE.out] at KN2
              go_wp2_with (first | (go_at_call 74; with_reducible refine Calls.mono KN2.out ?_; rintro e w5 ⟨rfl, rfl⟩) | (at_builtin; refine wpList_addS rfl (.tmp 54) (.tmp 57) rfl B bv (l ++ ld) T rfl OW.out rfl (by rw [List.length_append]; omega) ?_; intro v2 w2 o2 b2; have O2 := hid (show Ob w2 B v2 (l ++ (ld ++ T.data.toList)) from by rw [← List.append_assoc]; exact o2); have W2 := hid (WW.out.trans b2); clear o2 b2))
              go_roundg (p.size + 1 - (i + 1))
              case measure => omega
              case rel => exact ⟨i + 1, j, ld ++ T.data.toList, _, rfl, by omega, rfl, rfl, by rw [Int.natCast_add]; rfl, O2, W2, HE.out, HC.out⟩

            · by_cases y4 : bt p i = 69
              · have y := y4
                obtain ⟨t, ht⟩ : ∃ t, ks[j]? = some t := ⟨_, List.getElem?_eq_getElem (by have := EH.out.2; rw [tl_cons q, y] at this; simp at this; omega)⟩
                have DR := hid (show shwK (ks.drop j) = shw t :: shwK (ks.drop (j + 1)) from by rw [List.drop_eq_getElem_cons (List.getElem?_eq_some_iff.1 ht).1, (List.getElem?_eq_some_iff.1 ht).2]; rfl)
                have HE := hid (show (ld ++ shw t) ++ fillS op nm kd (tl p (i + 1)) (shwK (ks.drop (j + 1))) = F from by rw [← EH.out.1, tl_cons q, y, DR.out, List.append_assoc]; rfl)
                have HC := hid (show (j + 1) + (tl p (i + 1)).count 69 = ks.length from by have := EH.out.2; rw [tl_cons q, y] at this; simp at this; omega)
                have lF : ld.length + (shw t).length ≤ F.length := by have := congrArg List.length HE.out; simp only [List.length_append] at this; omega
                obtain ⟨gk, ka, km, kc, rfl, _, nc, nd⟩ := (NH.out.wt WW.out).at_ j t ht
                have SK := hid (SH.out t (List.mem_of_getElem? ht) wr (l ++ ld) bv ka km kc nd OW.out (TH.out.on WW.out.bl) (KH.out.wt WW.out hB) (by rw [List.length_append]; omega))
                obtain ⟨k0, k1, k2, k3, k4, k5⟩ := nc
                have jl : (j : Int) < (ks.length : Int) := by have := (List.getElem?_eq_some_iff.1 ht).1; omega
                have jl2 : (j : Int) ≤ 100 := by omega
                clear nd ht
                rw [y] at xi
                clear y
                go_wp2_with (go_at_call 21; with_reducible refine Calls.mono SK.out ?_; rintro e w2 ⟨v2, rfl, o2, b2⟩; have O2 := hid (show Ob w2 B v2 (l ++ (ld ++ shw t)) from by rw [← List.append_assoc]; exact o2); have W2 := hid (WW.out.trans b2); clear o2 b2)
                go_roundg (p.size + 1 - (i + 1))
                case measure => omega
                case rel => exact ⟨i + 1, j + 1, ld ++ shw t, _, rfl, by omega, rfl, rfl, by rw [Int.natCast_add]; rfl, O2, W2, HE.out, HC.out⟩

              · skip
                have HE := hid (show (ld ++ [bt p i]) ++ fillS op nm kd (tl p (i + 1)) (shwK (ks.drop j)) = F from by rw [← EH.out.1, tl_cons q, List.append_assoc]; simp only [fillS]; rw [if_neg y1, if_neg y2, if_neg y3, if_neg y4]; rfl)
                have HC := hid (show j + (tl p (i + 1)).count 69 = ks.length from by have := EH.out.2; rw [tl_cons q, List.count_cons_of_ne y4] at this; exact this)
                have lF : ld.length ≤ F.length := by have := congrArg List.length HE.out; simp only [List.length_append] at this; omega
                have i1 : ((bt p i).toNat : Int) ≠ 79 := nn y1
                have i2 : ((bt p i).toNat : Int) ≠ 78 := nn y2
                have i3 : ((bt p i).toNat : Int) ≠ 75 := nn y3
                have i4 : ((bt p i).toNat : Int) ≠ 69 := nn y4
                clear y1 y2 y3 y4
                generalize hch : bt p i = ch at *
                have HS8 := hid (show Below wr.heap.size wr (wr.alloc (.cells #[.int .u8 ch.toNat] 5)) from (Below.refl _ _).alloc (Nat.le_refl _) _)
                have O8 := hid (OW.out.next HS8.out)
                have W8 := hid (WW.out.next OW.out.ba HS8.out)
                have c8 : (wr.alloc (.cells #[.int .u8 ch.toNat] 5)).cell? ⟨wr.heap.size, 0, none⟩ = some (.int .u8 ch.toNat) := by simp
                go_wp2_with (at_builtin; refine wpList_addC rfl (.tmp 36) (.tmp 38) rfl B bv (l ++ ld) ch rfl O8.out wr.heap.size rfl c8 (by rw [List.length_append]; omega) ?_; intro v2 w2 o2 b2; have O2 := hid (show Ob w2 B v2 (l ++ (ld ++ [ch])) from by rw [← List.append_assoc]; exact o2); have W2 := hid (W8.out.trans b2); clear o2 b2)
                go_roundg (p.size + 1 - (i + 1))
                case measure => omega
                case rel => exact ⟨i + 1, j, ld ++ [ch], _, rfl, by omega, rfl, rfl, by rw [Int.natCast_add]; rfl, O2, W2, HE.out, HC.out⟩

      · have q' : ¬ (i : Int) < (p.size : Int) := by omega
        have HE := hid (show ld = F from by rw [← EH.out.1, tl_nil (by omega)]; simp [fillS])
        go_wp2_with fail
        go_ret
        exact ⟨bv, rfl, by rw [← HE.out]; exact OW.out, BB.out.trans WW.out⟩
end Go.Proofs.YtiikdmnmfmfpdaaGreatDoor

namespace Go.Proofs.YtiikdmnmfmfpdaaGreatDoor
open Go.Shelf Go.RowKit
set_option linter.unusedVariables false
set_option linter.unusedSimpArgs false

theorem patF_size (op : ByteArray) (m : Nat) : (patF op m).size ≤ 100 := by
  have key : ∀ (c : Prop) [Decidable c] (a b : ByteArray), a.size ≤ 100 → b.size ≤ 100 → (if c then a else b).size ≤ 100 := by
    intro c _ a b ha hb
    by_cases h : c
    · rw [if_pos h]; exact ha
    · rw [if_neg h]; exact hb
  unfold patF
  repeat' (first | refine key _ _ _ ?_ ?_ | decide)
theorem box_cells {w : World} {g : Nat} {v0 v1 v2 v3 v4 v5 : Value} {t : TypeId} {fz : Nat × Nat} (h : w.heap[g]? = some (.cells #[v0, v1, v2, v3, v4, v5] t fz)) : w.cell? ⟨g, 0, none⟩ = some v0 ∧ w.cell? ⟨g, 1, none⟩ = some v1 ∧ w.cell? ⟨g, 2, none⟩ = some v2 ∧ w.cell? ⟨g, 3, none⟩ = some v3 ∧ w.cell? ⟨g, 4, none⟩ = some v4 ∧ w.cell? ⟨g, 5, none⟩ = some v5 :=
  ⟨by simp [World.cell?, h], by simp [World.cell?, h], by simp [World.cell?, h], by simp [World.cell?, h], by simp [World.cell?, h], by simp [World.cell?, h]⟩
set_option maxRecDepth 100000 in
set_option maxHeartbeats 2000000 in
theorem show_nd (B : Nat) (op nm : ByteArray) (kd : Nat) (n : Int) (pl : Nat) (ks : List Tr) (hB : 1 < B) (hst : eqB op ⟨#[115, 116, 97, 116, 117, 116, 101]⟩ = false) (hli : eqB op ⟨#[108, 105, 116]⟩ = false) (hta : eqB op ⟨#[116, 97, 98, 108, 101]⟩ = false) (hok : okP (patF op ks.length) kd ks.length = true) (hkd : kd ≤ 1000000) (hS : ∀ t ∈ ks, SC B t) : SC B (.nd op nm kd n pl ks) := by
  intro w l v sa sm sc hN h hT hK hl
  simp only [Tr.op, Tr.name, Tr.kind, Tr.n, Tr.pl, Tr.kids] at hN hl ⊢
  have hs := h.ba
  have B0 := hid (show Below w.heap.size w (w.alloc (.cells #[.string op, .string nm, .int .i64 (kd : Nat), .int .i64 n, .int .i64 (pl : Nat), .slice sa sm sc] 26)) from (Below.refl _ _).alloc (Nat.le_refl _) _)
  have OB := hid (h.next B0.out)
  have BB := hid (Wt.of hs B0.out)
  have TH := hid (hT.on BB.out.bl)
  have KH := hid (hK.next B0.out)
  have NH := hid (hN.wt BB.out)
  have HX := hid (show (w.alloc (.cells #[.string op, .string nm, .int .i64 (kd : Nat), .int .i64 n, .int .i64 (pl : Nat), .slice sa sm sc] 26)).heap[w.heap.size]? = some (.cells #[.string op, .string nm, .int .i64 (kd : Nat), .int .i64 n, .int .i64 (pl : Nat), .slice sa sm sc] 26) from heap_alloc_new w _)
  obtain ⟨c0, c1, c2, c3, c4, c5, cz⟩ := B6.new w 26 (.string op) (.string nm) (.int .i64 (kd : Nat)) (.int .i64 n) (.int .i64 (pl : Nat)) (.slice sa sm sc)
  have ml : sm = ks.length := by cases hN <;> rfl
  have FE := hid (show l ++ shw (.nd op nm kd n pl ks) = l ++ fillS op nm kd (patF op sm).data.toList (shwK ks) from by unfold shw; rw [if_neg (by rw [hst]; decide), if_neg (by rw [hli]; decide), if_pos hok, ml])
  have LH : l.length + (fillS op nm kd (patF op sm).data.toList (shwK ks)).length ≤ 100000000 := by have := congrArg List.length FE.out; rw [List.length_append, List.length_append] at this; omega
  have OKH : okP (patF op sm) kd ks.length = true := by rw [ml]; exact hok
  have SH := hid hS
  have ust : (op.toList == [115, 116, 97, 116, 117, 116, 101]) = false := (eqL op _).trans hst
  have uta : (op.toList == [116, 97, 98, 108, 101]) = false := (eqL op _).trans hta
  have uli : (op.toList == [108, 105, 116]) = false := (eqL op _).trans hli
  clear h hT hN hK hS B0 hl hok ml
  go_enter Tryz.func21, Tryz.ntmps21
  go_upto_region 1 with fail
  generalize World.alloc w _ = w1 at *
  go_upto_region 13 with fail
  refine wp_region_held_drew (S := (fun W => W.cell? ⟨w.heap.size, 0, none⟩ = some (.string op) ∧ W.cell? ⟨w.heap.size, 1, none⟩ = some (.string nm) ∧ W.cell? ⟨w.heap.size, 2, none⟩ = some (.int .i64 (kd : Nat)) ∧ W.cell? ⟨w.heap.size, 3, none⟩ = some (.int .i64 n) ∧ W.cell? ⟨w.heap.size, 4, none⟩ = some (.int .i64 (pl : Nat)) ∧ W.cell? ⟨w.heap.size, 5, none⟩ = some (.slice sa sm sc))) (by kernel_rfl) ⟨c0, c1, c2, c3, c4, c5⟩ (fun hHeld => ?_)
  have O0 := hid (show Ob w1.drew B v l from OB.out.next (Below.refl _ _).drew)
  have W0 := hid (show Wt B w w1.drew from BB.out.next OB.out.ba (Below.refl _ _).drew)
  have D0 := hid (show Wt B w1 w1.drew from Wt.of OB.out.ba (Below.refl _ _).drew)
  have H0 := hid (show w1.drew.heap[w.heap.size]? = _ from HX.out)
  generalize w1.drew = wz at *
  refine take2 rfl (i := 0) (v := v) (d := 35) rfl rfl (by kernel_rfl) (by kernel_rfl) (by kernel_rfl) (fun _ _ _ h => h) (Or.inl ⟨by rfl, ?_⟩) hHeld ?_
  · (intro W hW; (try dsimp only at hW); go_simp)
  try simp only [Act.put, List.setIfInBounds_toArray, List.set_cons_zero, List.set_cons_succ]
  refine take2 rfl (i := 1) (v := .agg #[.string op, .string nm, .int .i64 (kd : Nat), .int .i64 n, .int .i64 (pl : Nat), .slice sa sm sc]) (d := 36) rfl rfl (by kernel_rfl) (by kernel_rfl) (by kernel_rfl) (fun _ _ _ h => h) (Or.inl ⟨by rfl, ?_⟩) hHeld ?_
  · (intro W hW; (try dsimp only at hW); go_simp)
  try simp only [Act.put, List.setIfInBounds_toArray, List.set_cons_zero, List.set_cons_succ]
  refine take2 rfl (i := 2) (v := .agg #[.string op, .string nm, .int .i64 (kd : Nat), .int .i64 n, .int .i64 (pl : Nat), .slice sa sm sc]) (d := 37) rfl rfl (by kernel_rfl) (by kernel_rfl) (by kernel_rfl) (fun _ _ _ h => h) (Or.inl ⟨by rfl, ?_⟩) hHeld ?_
  · (intro W hW; (try dsimp only at hW); go_simp)
  try simp only [Act.put, List.setIfInBounds_toArray, List.set_cons_zero, List.set_cons_succ]
  refine wpAnyH_ready (rs := [3]) (by kernel_rfl) (by simp) ?_
  refine cons2 rfl rfl (fun K9 hK => ?_)
  go_simp
  go_at_call 51
  refine Calls.mono (pattern_any op nm (kd : Nat) n (pl : Nat) sa sm sc wz) ?_
  rintro e w5 ⟨rfl, b5⟩
  have O5 := hid (O0.out.next b5)
  have D5 := hid (D0.out.next O0.out.ba b5)
  have W5 := hid (W0.out.next O0.out.ba b5)
  have H5 := hid ((b5.block _ (Array.getElem?_eq_some_iff.1 H0.out).1).trans H0.out)
  clear b5
  go_wp2_with fail
  refine hK.out _ _ (box_cells H5.out) (fun hX => ?_)
  clear hK K9 hHeld
  have hHeld := hX
  clear hX
  try simp only [Act.put, List.setIfInBounds_toArray, List.set_cons_zero, List.set_cons_succ]
  refine wpAnyH_ready (rs := [4]) (by kernel_rfl) (by simp) ?_
  refine cons2 rfl rfl (fun K9 hK => ?_)
  go_simp
  go_at_call 50
  refine Calls.mono (fill_any B op nm (patF op sm) kd n (pl : Nat) ks sa sm sc l v w5 hB (patF_size op sm) OKH hkd SH.out (NH.out.wt D5.out) O5.out (TH.out.on D5.out.bl) (KH.out.wt D5.out hB) LH) ?_
  rintro e w6 ⟨v6, rfl, o6, b6⟩
  have O6 := hid o6
  have W6 := hid (W5.out.trans b6)
  have H6 := hid (box_wt H5.out b6)
  clear o6 b6
  go_wp2_with fail
  refine hK.out _ _ (box_cells H6.out) (fun hX => ?_)
  clear hK K9 hHeld
  have hHeld := hX
  clear hX
  try simp only [Act.put, List.setIfInBounds_toArray, List.set_cons_zero, List.set_cons_succ]
  refine take2 rfl (i := 5) (v := v6) (d := 4) rfl rfl (by kernel_rfl) (by kernel_rfl) (by kernel_rfl) (fun _ _ _ h => h) (Or.inl ⟨by rfl, ?_⟩) hHeld ?_
  · (intro W hW; (try dsimp only at hW); go_simp)
  try simp only [Act.put, List.setIfInBounds_toArray, List.set_cons_zero, List.set_cons_succ]
  refine wpAnyH_done (by kernel_rfl) ?_ _
  go_wp2
  go_ret
  exact ⟨v6, rfl, by rw [FE.out]; exact O6.out, W6.out⟩

theorem litS_of {kd n : Nat} {nm : ByteArray} {pl : Nat} : shw (.nd ⟨#[108, 105, 116]⟩ nm kd (n : Nat) pl []) = litS kd n := by
  unfold shw
  rw [if_neg (by decide), if_pos (by decide)]
  rfl
set_option maxRecDepth 100000 in
set_option maxHeartbeats 2000000 in
theorem show_lit (B : Nat) (nm : ByteArray) (kd n pl : Nat) (hk : kd = 1 ∧ n ≤ 1 ∨ kd = 2 ∧ n < 9223372036854775808 ∨ kd = 3 ∧ n < 9223372036854775808) : SC B (.nd ⟨#[108, 105, 116]⟩ nm kd (n : Nat) pl []) := by
  intro w l v sa sm sc hN h hT hK hl
  rw [litS_of] at hl ⊢
  simp only [Tr.op, Tr.name, Tr.kind, Tr.n, Tr.pl, Tr.kids] at hN hl ⊢
  obtain ⟨rfl, rfl, rfl⟩ : sa = none ∧ sm = 0 ∧ sc = 0 := by
    cases hN with
    | nil => exact ⟨rfl, rfl, rfl⟩
    | row g c ts sl hs h0 hc hk => exact absurd rfl h0
  have hs := h.ba
  have B0 := hid (show Below w.heap.size w (w.alloc (.cells #[.string ⟨#[108, 105, 116]⟩, .string nm, .int .i64 (kd : Nat), .int .i64 (n : Nat), .int .i64 (pl : Nat), .slice none 0 0] 26)) from (Below.refl _ _).alloc (Nat.le_refl _) _)
  have OB := hid (h.next B0.out)
  have BB := hid (Wt.of hs B0.out)
  have HC := hid (show Calls Tryz.prog 49 #[v, .agg #[.string ⟨#[108, 105, 116]⟩, .string nm, .int .i64 (kd : Nat), .int .i64 (n : Nat), .int .i64 (pl : Nat), .slice none 0 0]] (w.alloc (.cells #[.string ⟨#[108, 105, 116]⟩, .string nm, .int .i64 (kd : Nat), .int .i64 (n : Nat), .int .i64 (pl : Nat), .slice none 0 0] 26)) (fun e w' => ∃ v', e = .returned v' ∧ Ob w' B v' (l ++ litS kd n) ∧ Wt B (w.alloc (.cells #[.string ⟨#[108, 105, 116]⟩, .string nm, .int .i64 (kd : Nat), .int .i64 (n : Nat), .int .i64 (pl : Nat), .slice none 0 0] 26)) w') from by
    rcases hk with ⟨rfl, a⟩ | ⟨rfl, a⟩ | ⟨rfl, a⟩
    · exact showLit_bool B n nm (pl : Nat) l v _ a OB.out (by omega) (hT.on BB.out.bl)
    · exact showLit_count B n nm (pl : Nat) l v _ a OB.out (by omega) (hT.on BB.out.bl)
    · exact showLit_money B n nm (pl : Nat) l v _ a OB.out (by omega) (hT.on BB.out.bl))
  obtain ⟨c0, c1, c2, c3, c4, c5, cz⟩ := B6.new w 26 (.string ⟨#[108, 105, 116]⟩) (.string nm) (.int .i64 (kd : Nat)) (.int .i64 (n : Nat)) (.int .i64 (pl : Nat)) (.slice none 0 0)
  clear h hT hN hK B0 hl hk
  generalize litS kd n = LS at *
  go_enter Tryz.func21, Tryz.ntmps21
  go_upto_region 1 with fail
  generalize World.alloc w _ = w1 at *
  go_wp2_with (go_at_call 49; with_reducible refine Calls.mono HC.out ?_; rintro e w2 ⟨v2, rfl, o2, b2⟩)
  go_ret
  exact ⟨v2, rfl, o2, BB.out.trans b2⟩
set_option maxRecDepth 100000 in
set_option maxHeartbeats 2000000 in
theorem show_stat (B : Nat) (nm : ByteArray) (kd : Nat) (n : Int) (pl : Nat) (ks : List Tr) (hB : 1 < B) (hk : ks.length ≤ 100000) (hS : ∀ t ∈ ks, SC B t) : SC B (.nd ⟨#[115, 116, 97, 116, 117, 116, 101]⟩ nm kd n pl ks) := by
  intro w l v sa sm sc hN h hT hK hl
  simp only [Tr.op, Tr.name, Tr.kind, Tr.n, Tr.pl, Tr.kids] at hN hl ⊢
  have hs := h.ba
  have B0 := hid (show Below w.heap.size w (w.alloc (.cells #[.string ⟨#[115, 116, 97, 116, 117, 116, 101]⟩, .string nm, .int .i64 (kd : Nat), .int .i64 n, .int .i64 (pl : Nat), .slice sa sm sc] 26)) from (Below.refl _ _).alloc (Nat.le_refl _) _)
  have OB := hid (h.next B0.out)
  have BB := hid (Wt.of hs B0.out)
  have TH := hid (hT.on BB.out.bl)
  have KH := hid (hK.next B0.out)
  have NH := hid (hN.wt BB.out)
  have HX := hid (show (w.alloc (.cells #[.string ⟨#[115, 116, 97, 116, 117, 116, 101]⟩, .string nm, .int .i64 (kd : Nat), .int .i64 n, .int .i64 (pl : Nat), .slice sa sm sc] 26)).heap[w.heap.size]? = some (.cells #[.string ⟨#[115, 116, 97, 116, 117, 116, 101]⟩, .string nm, .int .i64 (kd : Nat), .int .i64 n, .int .i64 (pl : Nat), .slice sa sm sc] 26) from heap_alloc_new w _)
  obtain ⟨c0, c1, c2, c3, c4, c5, cz⟩ := B6.new w 26 (.string ⟨#[115, 116, 97, 116, 117, 116, 101]⟩) (.string nm) (.int .i64 (kd : Nat)) (.int .i64 n) (.int .i64 (pl : Nat)) (.slice sa sm sc)
  have ml : sm = ks.length := by cases hN <;> rfl
  subst ml
  obtain ⟨F, hF⟩ : ∃ F, shw (.nd ⟨#[115, 116, 97, 116, 117, 116, 101]⟩ nm kd n pl ks) = F := ⟨_, rfl⟩
  have FE := hid (show shwL ks = F from by rw [← hF]; unfold shw; rw [if_pos (by decide)])
  rw [hF] at hl ⊢
  have SH := hid hS
  clear h hT hN hK B0 hS hF
  go_enter Tryz.func21, Tryz.ntmps21
  go_upto_region 1 with fail
  generalize World.alloc w _ = w1 at *
  go_upto_region 4 with fail
  go_loopg [0, 14] (ks.length + 1) (fun g bv iv wr => ∃ (i : Nat) (ld : List UInt8) (b0 : Value), b0 = bv ∧ i ≤ ks.length ∧ g = ks.length + 1 - i ∧ iv = .int .i64 (i : Nat) ∧ Hid (Ob wr B bv (l ++ ld)) ∧ Hid (Wt B w1 wr) ∧ Hid (ld ++ shwL (ks.drop i) = F))
  case atStart => exact ⟨0, [], _, rfl, Nat.zero_le _, rfl, rfl, by rw [List.append_nil]; exact OB, Wt.refl _ _, FE⟩
  case round =>
    clear FE OB c0 c1 c2 c3 c4 c5 cz
    obtain ⟨i, ld, bv, rfl, hi, rfl, rfl, OW, WW, EH⟩ := hrel
    by_cases q : i < ks.length
    · have q' : (i : Int) < (ks.length : Int) := by omega
      have ll : (ks.length : Int) ≤ 100000 := by omega
      obtain ⟨t, ht⟩ : ∃ t, ks[i]? = some t := ⟨_, List.getElem?_eq_getElem q⟩
      have HE := hid (show (ld ++ shw t ++ [10]) ++ shwL (ks.drop (i + 1)) = F from by rw [← EH.out, List.drop_eq_getElem_cons q, (List.getElem?_eq_some_iff.1 ht).2]; simp [shwL])
      have lF : ld.length + (shw t).length ≤ F.length := by have := congrArg List.length HE.out; simp only [List.length_append] at this; omega
      obtain ⟨gk, ka, km, kc, rfl, _, nc, nd⟩ := (NH.out.wt WW.out).at_ i t ht
      obtain ⟨k0, k1, k2, k3, k4, k5⟩ := nc
      have HS8 := hid (show Below wr.heap.size wr (wr.alloc (.cells #[.string t.op, .string t.name, .int .i64 (t.kind : Nat), .int .i64 t.n, .int .i64 (t.pl : Nat), .slice ka km kc] 26)) from (Below.refl _ _).alloc (Nat.le_refl _) _)
      have O8 := hid (OW.out.next HS8.out)
      have W8 := hid (WW.out.next OW.out.ba HS8.out)
      have N8 := hid (nd.wt (Wt.of OW.out.ba HS8.out))
      obtain ⟨b0, b1, b2, b3, b4, b5, bz⟩ := B6.new wr 26 (.string t.op) (.string t.name) (.int .i64 (t.kind : Nat)) (.int .i64 t.n) (.int .i64 (t.pl : Nat)) (.slice ka km kc)
      have SK := hid (SH.out t (List.mem_of_getElem? ht) _ (l ++ ld) bv ka km kc N8.out O8.out (TH.out.on W8.out.bl) (KH.out.wt W8.out hB) (by rw [List.length_append]; omega))
      clear nd ht HS8 N8
      go_upto_region 6 with fail
      generalize World.alloc wr _ = w2 at *
      clear k0 k1 k2 k3 k4 k5
      go_wp2_with (first | (go_at_call 21; with_reducible refine Calls.mono SK.out ?_; rintro e w3 ⟨v3, rfl, o3, x3⟩; have O3 := hid (o3.next (show Below w3.heap.size w3 (w3.alloc (.cells #[.int .u8 10] 5)) from (Below.refl _ _).alloc (Nat.le_refl _) _)); have W3 := hid ((W8.out.trans x3).next o3.ba (show Below w3.heap.size w3 (w3.alloc (.cells #[.int .u8 10] 5)) from (Below.refl _ _).alloc (Nat.le_refl _) _)); have c8 : (w3.alloc (.cells #[.int .u8 10] 5)).cell? ⟨w3.heap.size, 0, none⟩ = some (.int .u8 (10 : UInt8).toNat) := by simp) | (at_builtin; refine wpList_addC rfl (.tmp 20) (.tmp 21) rfl B v3 (l ++ ld ++ shw t) 10 rfl O3.out w3.heap.size rfl c8 (by rw [List.length_append, List.length_append]; omega) ?_; intro v4 w4 o4 x4; have O4 := hid (show Ob w4 B v4 (l ++ (ld ++ shw t ++ [10])) from by rw [← List.append_assoc, ← List.append_assoc]; exact o4); have W4 := hid (W3.out.trans x4); clear o4 x4))
      go_roundg (ks.length + 1 - (i + 1))
      case measure => omega
      case rel => exact ⟨i + 1, ld ++ shw t ++ [10], _, rfl, by omega, rfl, by rw [Int.natCast_add]; rfl, O4, W4, HE⟩
    · have q' : ¬ (i : Int) < (ks.length : Int) := by omega
      have HE := hid (show ld = F from by rw [← EH.out, List.drop_eq_nil_of_le (by omega)]; simp [shwL])
      go_wp2_with fail
      go_ret
      exact ⟨bv, rfl, by rw [← HE.out]; exact OW.out, BB.out.trans WW.out⟩
end Go.Proofs.YtiikdmnmfmfpdaaGreatDoor

namespace Go.Proofs.YtiikdmnmfmfpdaaGreatDoor
open Go.Shelf Go.RowKit
set_option linter.unusedVariables false
set_option linter.unusedSimpArgs false

theorem nums_str (l : List UInt8) : strOfNums (l.map fun x => (x.toNat : Int)) = ⟨l.toArray⟩ := by
  unfold strOfNums
  rw [List.map_map]
  have : ((fun z : Int => UInt8.ofNat z.toNat) ∘ fun x : UInt8 => (x.toNat : Int)) = id := by
    funext x
    simp
  first | rw [this, List.map_id] | (simp [this])
theorem Ob.str {w : World} {B : Nat} {v : Value} {l : List UInt8} (h : Ob w B v l) (h0 : 0 < l.length) : (convert 62 9 v).run Tryz.prog w = .ok (.string ⟨l.toArray⟩) w := by
  obtain ⟨g, c, rfl, _, cl, _⟩ := h.at_ h0
  have := run_convert_bytes_arg (P := Tryz.prog) w 62 5 Tryz.underlying62 Tryz.underlying5 g 0 l.length c (l.map fun x => (x.toNat : Int)) (by simp) (fun i hi => by
    have e : l[i]? = some l[i] := List.getElem?_eq_getElem hi
    have := cl i _ e
    rw [Nat.zero_add, this]
    simp [e]) 9 Tryz.underlying9
  rw [nums_str] at this
  exact this
set_option maxHeartbeats 1000000 in
theorem Show_any (t : Tr) (w : World) (sa : Option Addr) (sm sc : Nat) (S : Nat → Prop) (hN : Nd w S (.slice sa sm sc) t.kids) (hS : ∀ B, w.heap.size ≤ B → SC B t) (hT : Lib.TabIs Tryz.prog w "internal/strconv.uint64pow10" .u64 Lib.pow10Tab) (hK : KT w) (h0 : 0 < (shw t).length) (hl : (shw t).length ≤ 100000000) :
    Calls Tryz.prog 12 #[.agg #[.string t.op, .string t.name, .int .i64 (t.kind : Nat), .int .i64 t.n, .int .i64 (t.pl : Nat), .slice sa sm sc]] w fun e w' => e = .returned (.string ⟨(shw t).toArray⟩) ∧ Below w.heap.size w w' := by
  have B0 := hid (show Below w.heap.size w (w.alloc (.cells #[.string t.op, .string t.name, .int .i64 (t.kind : Nat), .int .i64 t.n, .int .i64 (t.pl : Nat), .slice sa sm sc] 26)) from (Below.refl _ _).alloc (Nat.le_refl _) _)
  have HC := hid (hS _ B0.out.size (w.alloc (.cells #[.string t.op, .string t.name, .int .i64 (t.kind : Nat), .int .i64 t.n, .int .i64 (t.pl : Nat), .slice sa sm sc] 26)) [] (.slice none 0 0) sa sm sc (hN.keep fun g s l => ⟨Nat.lt_of_lt_of_le l B0.out.size, B0.out.block g l⟩) (Ob.nil _ _ (Nat.le_refl _)) (Lib.tabBelow_of_tabIs (Lib.tabIs_alloc hT _)) (hK.next B0.out) (by simpa using hl))
  obtain ⟨c0, c1, c2, c3, c4, c5, cz⟩ := B6.new w 26 (.string t.op) (.string t.name) (.int .i64 (t.kind : Nat)) (.int .i64 t.n) (.int .i64 (t.pl : Nat)) (.slice sa sm sc)
  clear hN hS hT hK
  generalize shw t = F at *
  go_enter Tryz.func12, Tryz.ntmps12
  go_upto_region 1 with fail
  generalize World.alloc w _ = w1 at *
  go_wp2_with (go_at_call 21; with_reducible refine Calls.mono HC.out ?_; rintro e w2 ⟨v2, rfl, o2, b2⟩; have kd := o2.str (by simpa using h0); have B2 := hid (B0.out.trans (b2.bl.mono B0.out.size)); clear o2 b2)
  go_ret
  exact ⟨rfl, B2.out⟩
mutual
/-- Whether two trees are alike but for where they stand. -/
def smT : Tr → Tr → Bool
  | .nd o m k n _ ks, .nd o' m' k' n' _ ks' => eqB o o' && eqB m m' && decide (k = k') && decide (n = n') && smL ks ks'
def smL : List Tr → List Tr → Bool
  | [], [] => true
  | [], _ :: _ => false
  | _ :: _, [] => false
  | t :: ts, u :: us => smT t u && smL ts us
end
end Go.Proofs.YtiikdmnmfmfpdaaGreatDoor

namespace Go.Proofs.YtiikdmnmfmfpdaaGreatDoor
open Go.Shelf Go.RowKit
set_option linter.unusedVariables false
set_option linter.unusedSimpArgs false

/-- What a call of Same answers. -/
def SmC (t u : Tr) : Prop := ∀ (w : World) (S : Nat → Prop) (aa ba : Option Addr) (am ac bm bc : Nat), Nd w S (.slice aa am ac) t.kids → Nd w S (.slice ba bm bc) u.kids → Calls Tryz.prog 14 #[.agg #[.string t.op, .string t.name, .int .i64 (t.kind : Nat), .int .i64 t.n, .int .i64 (t.pl : Nat), .slice aa am ac], .agg #[.string u.op, .string u.name, .int .i64 (u.kind : Nat), .int .i64 u.n, .int .i64 (u.pl : Nat), .slice ba bm bc]] w fun e w' => e = .returned (.bool (smT t u)) ∧ Below w.heap.size w w'
theorem Nd.any {w w' : World} {S : Nat → Prop} {v : Value} {ts : List Tr} (h : Nd w S v ts) (hb : Below w.heap.size w w') : Nd w' S v ts := h.keep fun g s l => ⟨s, hb.block g l⟩
theorem smL_len : ∀ (ts us : List Tr), ts.length ≠ us.length → smL ts us = false
  | [], [], h => absurd rfl h
  | [], _ :: _, h => rfl
  | _ :: _, [], h => rfl
  | t :: ts, u :: us, h => by
    unfold smL
    rw [smL_len ts us (by simpa using h), Bool.and_false]
set_option maxRecDepth 100000 in
set_option maxHeartbeats 2000000 in
theorem eqf_any (ts us : List Tr) (w : World) (S : Nat → Prop) (aa ba : Option Addr) (am ac bm bc : Nat) (hA : Nd w S (.slice aa am ac) ts) (hB : Nd w S (.slice ba bm bc) us) (hl : ts.length ≤ 100000) (hC : ∀ t ∈ ts, ∀ u ∈ us, SmC t u) :
    Calls Tryz.prog 24 #[.slice aa am ac, .slice ba bm bc, .func (.func 14) #[] #[]] w fun e w' => e = .returned (.bool (smL ts us)) ∧ Below w.heap.size w w' := by
  have ea : am = ts.length := by cases hA <;> rfl
  have eb : bm = us.length := by cases hB <;> rfl
  subst ea eb
  by_cases y : ts.length = us.length
  · have NA := hid hA
    have NB := hid hB
    have CH := hid hC
    have y' : (ts.length : Int) = (us.length : Int) := by omega
    have l1 : (us.length : Int) ≤ 100000 := by omega
    obtain ⟨F, hF⟩ : ∃ F, smL ts us = F := ⟨_, rfl⟩
    have FE := hid hF
    rw [hF]
    clear hA hB hC hF
    rw [y]
    go_enter Tryz.func24, Tryz.ntmps24
    go_upto_region 4 with fail
    go_loopg [17] (us.length + 1) (fun g iv wr => ∃ i : Nat, i ≤ us.length ∧ g = us.length + 1 - i ∧ iv = .int .i64 (i : Nat) ∧ Hid (Below w.heap.size w wr) ∧ Hid (smL (ts.drop i) (us.drop i) = F))
    case atStart => exact ⟨0, Nat.zero_le _, rfl, rfl, Below.refl _ _, FE⟩
    case round =>
      obtain ⟨i, hi, rfl, rfl, HB, EH⟩ := hrel
      by_cases q : i < us.length
      · have q' : (i : Int) < (us.length : Int) := by omega
        obtain ⟨t, ht⟩ : ∃ t, ts[i]? = some t := ⟨_, List.getElem?_eq_getElem (by omega)⟩
        obtain ⟨u, hu⟩ : ∃ u, us[i]? = some u := ⟨_, List.getElem?_eq_getElem q⟩
        have SE := hid (show (smT t u && smL (ts.drop (i + 1)) (us.drop (i + 1))) = F from by rw [← EH.out, List.drop_eq_getElem_cons (by omega : i < ts.length), List.drop_eq_getElem_cons q, (List.getElem?_eq_some_iff.1 ht).2, (List.getElem?_eq_some_iff.1 hu).2]; rfl)
        obtain ⟨g1, a1, m1, c1, rfl, _, n1, d1⟩ := (NA.out.any HB.out).at_ i t ht
        obtain ⟨g2, a2, m2, c2, rfl, _, n2, d2⟩ := (NB.out.any HB.out).at_ i u hu
        obtain ⟨k0, k1, k2, k3, k4, k5⟩ := n1
        obtain ⟨j0, j1, j2, j3, j4, j5⟩ := n2
        have BL1 := hid (show Below wr.heap.size wr (wr.alloc (.cells #[.string t.op, .string t.name, .int .i64 (t.kind : Nat), .int .i64 t.n, .int .i64 (t.pl : Nat), .slice a1 m1 c1] 26)) from (Below.refl _ _).alloc (Nat.le_refl _) _)
        have X1 := hid (B6.new wr 26 (.string t.op) (.string t.name) (.int .i64 (t.kind : Nat)) (.int .i64 t.n) (.int .i64 (t.pl : Nat)) (.slice a1 m1 c1))
        have D1 := hid (d1.any BL1.out)
        have D2 := hid (d2.any BL1.out)
        have HB1 := hid (nextB HB.out BL1.out)
        have CS := hid (CH.out t (List.mem_of_getElem? ht) u (List.mem_of_getElem? hu))
        have J := hid (show NC (wr.alloc (.cells #[.string t.op, .string t.name, .int .i64 (t.kind : Nat), .int .i64 t.n, .int .i64 (t.pl : Nat), .slice a1 m1 c1] 26)) g2 (i * 6) u (.slice a2 m2 c2) from NC.keep ⟨j0, j1, j2, j3, j4, j5⟩ (BL1.out.block _ (World.block_lt_of_cell? _ _ j0)))
        go_upto_region 6 with fail
        clear k0 k1 k2 k3 k4 k5 j0 j1 j2 j3 j4 j5 d1 d2 BL1 ht hu
        generalize World.alloc wr _ = w2 at *
        generalize wr.heap.size = q1 at *
        obtain ⟨j0, j1, j2, j3, j4, j5⟩ := J.out
        have BL2 := hid (show Below w2.heap.size w2 (w2.alloc (.cells #[.string u.op, .string u.name, .int .i64 (u.kind : Nat), .int .i64 u.n, .int .i64 (u.pl : Nat), .slice a2 m2 c2] 26)) from (Below.refl _ _).alloc (Nat.le_refl _) _)
        have X2 := hid (B6.new w2 26 (.string u.op) (.string u.name) (.int .i64 (u.kind : Nat)) (.int .i64 u.n) (.int .i64 (u.pl : Nat)) (.slice a2 m2 c2))
        have Y1 := hid (X1.out.next BL2.out)
        have HB2 := hid (nextB HB1.out BL2.out)
        have KC := hid (CS.out _ S a1 a2 m1 c1 m2 c2 (D1.out.any BL2.out) (D2.out.any BL2.out))
        go_upto_region 7 with fail
        clear j0 j1 j2 j3 j4 j5 BL2
        generalize World.alloc w2 _ = w3 at *
        generalize w2.heap.size = q2 at *
        obtain ⟨p0, p1, p2, p3, p4, p5, _⟩ := Y1.out
        obtain ⟨r0, r1, r2, r3, r4, r5, _⟩ := X2.out
        cases z : smT t u
        · rw [z] at KC
          have FF := hid (show F = false from by rw [← SE.out, z]; rfl)
          clear z
          go_wp2_with (go_at_call 14; with_reducible refine Calls.mono KC.out ?_; rintro e w4 ⟨rfl, b4⟩)
          go_ret
          exact ⟨by rw [FF.out]; rfl, nextB HB2.out b4⟩
        · rw [z] at KC
          have FF := hid (show smL (ts.drop (i + 1)) (us.drop (i + 1)) = F from by rw [← SE.out, z]; rfl)
          clear z
          go_wp2_with (go_at_call 14; with_reducible refine Calls.mono KC.out ?_; rintro e w4 ⟨rfl, b4⟩)
          go_roundg (us.length + 1 - (i + 1))
          case measure => omega
          case rel => exact ⟨i + 1, by omega, rfl, by rw [Int.natCast_add]; rfl, nextB HB2.out b4, FF⟩
      · have q' : ¬ (i : Int) < (us.length : Int) := by omega
        have FF := hid (show F = true from by rw [← EH.out, List.drop_eq_nil_of_le (by omega), List.drop_eq_nil_of_le (by omega)]; rfl)
        go_wp2_with fail
        go_ret
        exact ⟨by rw [FF.out]; rfl, HB.out⟩
  · rw [smL_len ts us y]
    have y' : (ts.length : Int) ≠ (us.length : Int) := by omega
    clear hA hB hC
    go_enter Tryz.func24, Tryz.ntmps24
    go_wp2
    go_ret
    exact ⟨rfl, Below.refl _ _⟩
end Go.Proofs.YtiikdmnmfmfpdaaGreatDoor

namespace Go.Proofs.YtiikdmnmfmfpdaaGreatDoor
open Go.Shelf Go.RowKit
set_option linter.unusedVariables false
set_option linter.unusedSimpArgs false

/-- Trees whose nodes have not too many kids. -/
inductive Nw : Tr → Prop
  | nd (o m : ByteArray) (k : Nat) (n : Int) (p : Nat) (ks : List Tr) (hl : ks.length ≤ 100000) (hk : ∀ t ∈ ks, Nw t) : Nw (.nd o m k n p ks)
set_option maxRecDepth 100000 in
set_option maxHeartbeats 4000000 in
theorem same_nd (o m o' m' : ByteArray) (k k' : Nat) (n n' : Int) (p p' : Nat) (ks us : List Tr) (hl : ks.length ≤ 100000) (hC : ∀ t ∈ ks, ∀ u ∈ us, SmC t u) : SmC (.nd o m k n p ks) (.nd o' m' k' n' p' us) := by
  intro w S aa ba am ac bm bc hA hB
  simp only [Tr.op, Tr.name, Tr.kind, Tr.n, Tr.pl, Tr.kids] at hA hB ⊢
  have B1 := hid (show Below w.heap.size w (w.alloc (.cells #[.string o, .string m, .int .i64 (k : Nat), .int .i64 n, .int .i64 (p : Nat), .slice aa am ac] 26)) from (Below.refl _ _).alloc (Nat.le_refl _) _)
  have X1 := hid (B6.new w 26 (.string o) (.string m) (.int .i64 (k : Nat)) (.int .i64 n) (.int .i64 (p : Nat)) (.slice aa am ac))
  obtain ⟨w1, hw1⟩ : ∃ w1, (w.alloc (.cells #[.string o, .string m, .int .i64 (k : Nat), .int .i64 n, .int .i64 (p : Nat), .slice aa am ac] 26)) = w1 := ⟨_, rfl⟩
  rw [hw1] at B1 X1
  have S1 := hid (show w1.heap.size = w.heap.size + 1 from by rw [← hw1]; simp)
  have B2' := hid (show Below w1.heap.size w1 (w1.alloc (.cells #[.string o', .string m', .int .i64 (k' : Nat), .int .i64 n', .int .i64 (p' : Nat), .slice ba bm bc] 26)) from (Below.refl _ _).alloc (Nat.le_refl _) _)
  have X2 := hid (B6.new w1 26 (.string o') (.string m') (.int .i64 (k' : Nat)) (.int .i64 n') (.int .i64 (p' : Nat)) (.slice ba bm bc))
  have Y1 := hid (X1.out.next B2'.out)
  have B2 := hid (nextB B1.out B2'.out)
  have EC := hid (eqf_any ks us _ S aa ba am ac bm bc (hA.any B2.out) (hB.any B2.out) hl hC)
  obtain ⟨F, hF⟩ : ∃ F, smT (.nd o m k n p ks) (.nd o' m' k' n' p' us) = F := ⟨_, rfl⟩
  have FE := hid hF
  rw [hF]
  clear hA hB hC hF B2'
  go_enter Tryz.func14, Tryz.ntmps14
  go_upto_region 1 with fail
  clear hw1
  generalize World.alloc w1 _ = w2 at *
  obtain ⟨a0, a1, a2, a3, a4, a5, az⟩ := Y1.out
  obtain ⟨b0, b1, b2, b3, b4, b5, bz⟩ := X2.out
  cases e1 : eqB o o'
  · have u1 : (o.toList == o'.toList) = false := (eqB_is o o').trans e1
    have FF : F = false := by rw [← FE.out]; unfold smT; rw [e1]; simp
    subst FF
    go_wp2_with fail
    go_ret
    exact ⟨rfl, B2.out⟩
  · have u1 : (o.toList == o'.toList) = true := (eqB_is o o').trans e1
    cases e2 : eqB m m'
    · have u2 : (m.toList == m'.toList) = false := (eqB_is m m').trans e2
      have FF : F = false := by rw [← FE.out]; unfold smT; rw [e2]; simp
      subst FF
      go_wp2_with fail
      go_ret
      exact ⟨rfl, B2.out⟩
    · have u2 : (m.toList == m'.toList) = true := (eqB_is m m').trans e2
      by_cases e3 : k = k'
      · subst e3
        by_cases e4 : n = n'
        · subst e4
          have FF := hid (show smL ks us = F from by rw [← FE.out]; unfold smT; rw [e1, e2]; simp)
          rw [FF.out] at EC
          go_wp2_with (go_at_call 24; with_reducible refine Calls.mono EC.out ?_; rintro e w4 ⟨rfl, x4⟩)
          go_ret
          exact ⟨rfl, nextB B2.out x4⟩
        · have u4 : (n == n') = false := by simpa using e4
          have FF : F = false := by rw [← FE.out]; unfold smT; rw [e1, e2, decide_eq_false e4]; simp
          subst FF
          go_wp2_with fail
          go_ret
          exact ⟨rfl, B2.out⟩
      · have u3 : ((k : Int) == (k' : Int)) = false := by rw [beq_eq_false_iff_ne]; omega
        have FF : F = false := by rw [← FE.out]; unfold smT; rw [e1, e2, decide_eq_false e3]; simp
        subst FF
        go_wp2_with fail
        go_ret
        exact ⟨rfl, B2.out⟩

theorem same_any : ∀ {t : Tr}, Nw t → ∀ u, SmC t u := by
  intro t h
  induction h with
  | nd o m k n p ks hl hk ih =>
    intro u
    cases u with
    | nd o' m' k' n' p' us => exact same_nd o m o' m' k k' n n' p p' ks us hl (fun t ht u _ => ih t ht u)
end Go.Proofs.YtiikdmnmfmfpdaaGreatDoor

namespace Go.Proofs.YtiikdmnmfmfpdaaGreatDoor
open Go.Shelf Go.RowKit
set_option linter.unusedVariables false
set_option linter.unusedSimpArgs false

theorem tc_of {ws : List Wo} (h : ws.all (fun x => !(eqB x.t ⟨#[116, 97, 98, 108, 101]⟩)) = true) : TC ws := by
  intro w p b c k o e
  exfalso
  cases hd : ws.drop k with
  | nil => rw [hd] at e; revert e; decide
  | cons x r =>
    rw [hd] at e
    have e : eqB x.t ⟨#[116, 97, 98, 108, 101]⟩ = true := e
    have m : x ∈ ws := List.mem_of_mem_drop (by rw [hd]; exact List.mem_cons_self)
    have := List.all_eq_true.1 h x m
    rw [e] at this
    cases this
/-- A text that is cut, and has no table. -/
theorem parse_no (s : ByteArray) (w : World) (RW : List Wd) (r : Tr ⊕ (Nat × Nat)) (hs : s.size ≤ 8192) (hx : cutF s 0 = (RW, none)) (hn : (RW.map (wo s)).all (fun x => !(eqB x.t ⟨#[116, 97, 98, 108, 101]⟩)) = true) (hr : parF (RW.map (wo s)) = r) (hT : KT w) (hS : Tab w) :
    Calls Tryz.prog 7 #[.string s] w fun e w' => PrP r w e w' := by
  have := parse_good s w RW hs hx (tc_of hn) hT hS
  rw [show parse s = r from by unfold parse; rw [if_neg (by omega), hx]; exact hr] at this
  exact this
def aw1T : ByteArray := ⟨#[114, 117, 108, 101, 32, 116, 32, 109, 111, 110, 101, 121, 32, 61, 32, 36, 49, 32, 43, 32, 36, 50, 59]⟩
def aw1R : List Wd := [(2, 4, 0, 0), (1, 1, 0, 5), (2, 5, 0, 7), (7, 1, 0, 13), (4, 2, 100, 15), (7, 1, 0, 18), (4, 2, 200, 20), (7, 1, 0, 22), (0, 0, 0, 23)]
theorem aw1C : cutF aw1T 0 = (aw1R, none) := by decide +kernel
def aw1P : Tr := .nd ⟨#[43]⟩ ⟨#[]⟩ 0 0 18 [lit1 3 100 15, lit1 3 200 20]
def aw1U : Tr := .nd ⟨#[114, 117, 108, 101]⟩ ⟨#[116]⟩ 3 0 0 [aw1P]
def aw1X : Tr := .nd ⟨#[115, 116, 97, 116, 117, 116, 101]⟩ ⟨#[]⟩ 0 0 0 [aw1U]
theorem aw1N : (aw1R.map (wo aw1T)).all (fun x => !(eqB x.t ⟨#[116, 97, 98, 108, 101]⟩)) = true := by decide +kernel
theorem aw1W : parF (aw1R.map (wo aw1T)) = .inl aw1X := by kernel_rfl
def aw2T : ByteArray := ⟨#[114, 117, 108, 101]⟩
def aw2R : List Wd := [(2, 4, 0, 0), (0, 0, 0, 4)]
theorem aw2C : cutF aw2T 0 = (aw2R, none) := by decide +kernel
theorem aw2N : (aw2R.map (wo aw2T)).all (fun x => !(eqB x.t ⟨#[116, 97, 98, 108, 101]⟩)) = true := by decide +kernel
theorem aw2W : parF (aw2R.map (wo aw2T)) = .inr (4, 7) := by kernel_rfl
theorem dd1 {u : Nat} (h : u < 10) : Lib.decDigits u = [UInt8.ofNat (48 + u)] := by
  unfold Lib.decDigits
  rw [dif_pos h]
theorem dd2 {u : Nat} (h : ¬ u < 10) : Lib.decDigits u = Lib.decDigits (u / 10) ++ [UInt8.ofNat (48 + u % 10)] := by
  rw [Lib.decDigits]
  rw [dif_neg h]
theorem dd100 : Lib.decDigits 100 = [49, 48, 48] := by
  rw [dd2 (by decide), dd2 (by decide), dd1 (by decide)]
  decide
theorem lit100 : litS 3 100 = [36, 49, 46, 48, 48] := by
  unfold litS decU
  rw [if_neg (by decide), if_neg (by decide), if_pos rfl, show 100 / 100 = 1 from rfl, show 100 + 100 % 100 = 100 from rfl, dd100, dd1 (by decide)]
  decide
theorem lit200 : litS 3 200 = [36, 50, 46, 48, 48] := by
  unfold litS decU
  rw [if_neg (by decide), if_neg (by decide), if_pos rfl, show 200 / 100 = 2 from rfl, show 100 + 200 % 100 = 100 from rfl, dd100, dd1 (by decide)]
  decide
theorem shw_nd {op nm : ByteArray} {kd : Nat} {n : Int} {a : Nat} {ks : List Tr} (h1 : eqB op ⟨#[115, 116, 97, 116, 117, 116, 101]⟩ = false) (h2 : eqB op ⟨#[108, 105, 116]⟩ = false) (h3 : okP (patF op ks.length) kd ks.length = true) : shw (.nd op nm kd n a ks) = fillS op nm kd (patF op ks.length).data.toList (shwK ks) := by
  rw [shw, if_neg (by rw [h1]; decide), if_neg (by rw [h2]; decide), if_pos h3]
theorem shw_lit (nm : ByteArray) (kd n a : Nat) : shw (.nd ⟨#[108, 105, 116]⟩ nm kd (n : Nat) a []) = litS kd n := litS_of
theorem aw1S : shw aw1X = [114, 117, 108, 101, 32, 116, 32, 109, 111, 110, 101, 121, 32, 61, 32, 40, 36, 49, 46, 48, 48, 32, 43, 32, 36, 50, 46, 48, 48, 41, 59, 10] := by
  have p : shw aw1P = [40, 36, 49, 46, 48, 48, 32, 43, 32, 36, 50, 46, 48, 48, 41] := by
    unfold aw1P lit1
    rw [shw_nd (by decide) (by decide) (by decide)]
    simp only [shwK]
    rw [shw_lit, shw_lit, lit100, lit200]
    rfl
  have u : shw aw1U = [114, 117, 108, 101, 32, 116, 32, 109, 111, 110, 101, 121, 32, 61, 32, 40, 36, 49, 46, 48, 48, 32, 43, 32, 36, 50, 46, 48, 48, 41, 59] := by
    unfold aw1U
    rw [shw_nd (by decide) (by decide) (by decide)]
    simp only [shwK]
    rw [p]
    rfl
  unfold aw1X
  rw [shw, if_pos (by decide)]
  simp only [shwL]
  rw [u]
  rfl
theorem aw1G (B : Nat) (hB : 1 < B) : SC B aw1X := by
  refine show_stat B _ _ _ _ _ hB (by decide) fun t ht => ?_
  obtain rfl := List.mem_singleton.1 ht
  refine show_nd B _ _ _ _ _ _ hB (by decide) (by decide) (by decide) (by decide) (by decide) fun t ht => ?_
  obtain rfl := List.mem_singleton.1 ht
  refine show_nd B _ _ _ _ _ _ hB (by decide) (by decide) (by decide) (by decide) (by decide) fun t ht => ?_
  rcases List.mem_cons.1 ht with rfl | ht
  · exact show_lit B _ 3 100 15 (by decide)
  · obtain rfl := List.mem_singleton.1 ht
    exact show_lit B _ 3 200 20 (by decide)
theorem aw1K : Nw aw1X :=
  .nd _ _ _ _ _ _ (by decide) fun t ht => by
    obtain rfl := List.mem_singleton.1 ht
    exact .nd _ _ _ _ _ _ (by decide) fun t ht => by
      obtain rfl := List.mem_singleton.1 ht
      exact .nd _ _ _ _ _ _ (by decide) fun t ht => by
        rcases List.mem_cons.1 ht with rfl | ht
        · exact .nd _ _ _ _ _ _ (by decide) (fun t ht => by simp at ht)
        · obtain rfl := List.mem_singleton.1 ht
          exact .nd _ _ _ _ _ _ (by decide) (fun t ht => by simp at ht)
theorem aw1Y : smT aw1X aw1X = true := by decide +kernel
theorem aw1Z : smT aw1X Tr.zero = false := by decide +kernel
end Go.Proofs.YtiikdmnmfmfpdaaGreatDoor

namespace Go.Proofs.YtiikdmnmfmfpdaaGreatDoor
open Go.Shelf Go.RowKit
set_option linter.unusedVariables false
set_option linter.unusedSimpArgs false

/-- The tables that the program reads. -/
structure Tbs (w : World) : Prop where
  sg : Tab w
  kt : KT w
  pw : Lib.TabIs Tryz.prog w "internal/strconv.uint64pow10" .u64 Lib.pow10Tab
theorem Tbs.next {w w' : World} (h : Tbs w) (hb : Below w.heap.size w w') : Tbs w' := ⟨h.sg.next hb, h.kt.next hb, Lib.tabBelow_of_tabIs h.pw w' hb⟩
theorem PrP.inl {t : Tr} {w w' : World} {e : Ending} (h : PrP (.inl t) w e w') : ∃ (sa : Option Addr) (sm sc : Nat), e = .returned (.tuple #[.agg #[.string t.op, .string t.name, .int .i64 (t.kind : Nat), .int .i64 t.n, .int .i64 (t.pl : Nat), .slice sa sm sc], .int .i64 0, .int .i64 0]) ∧ Nd w' (fun g => w.heap.size ≤ g) (.slice sa sm sc) t.kids ∧ Below w.heap.size w w' := by
  obtain ⟨b, v, he, sl, hv, nd⟩ := h
  subst hv
  obtain ⟨sa, sm, sc, rfl⟩ := nd.sl
  exact ⟨sa, sm, sc, he, nd, b⟩
theorem PrP.inr {a n : Nat} {w w' : World} {e : Ending} (h : PrP (.inr (a, n)) w e w') : e = .returned (.tuple #[.agg #[.string ⟨#[]⟩, .string ⟨#[]⟩, .int .i64 0, .int .i64 0, .int .i64 0, .slice none 0 0], .int .i64 (a : Nat), .int .i64 (n : Nat)]) ∧ Below w.heap.size w w' := ⟨h.2, h.1⟩
set_option maxRecDepth 100000 in
set_option maxHeartbeats 4000000 in
theorem awake_any (w : World) (hT : Tbs w) : Calls Tryz.prog 6 #[] w fun e w' => e = .returned (.bool true) ∧ Below w.heap.size w w' := by
  have TH := hid hT
  have KP := hid (show Calls Tryz.prog 7 #[.string ⟨#[114, 117, 108, 101, 32, 116, 32, 109, 111, 110, 101, 121, 32, 61, 32, 36, 49, 32, 43, 32, 36, 50, 59]⟩] w (fun e w' => ∃ (sa : Option Addr) (sm sc : Nat), e = .returned (.tuple #[.agg #[.string ⟨#[115, 116, 97, 116, 117, 116, 101]⟩, .string ⟨#[]⟩, .int .i64 0, .int .i64 0, .int .i64 0, .slice sa sm sc], .int .i64 0, .int .i64 0]) ∧ Nd w' (fun g => w.heap.size ≤ g) (.slice sa sm sc) aw1X.kids ∧ Below w.heap.size w w') from (parse_no aw1T w aw1R _ (by decide) aw1C aw1N aw1W hT.kt hT.sg).mono fun e w' h => h.inl)
  clear hT
  go_enter Tryz.func6, Tryz.ntmps6
  go_upto_region 2 with (go_at_call 7; with_reducible refine Calls.mono KP.out ?_; rintro e w1 ⟨sa, sm, sc, rfl, n1, b1⟩; have B1 := hid b1; have N1 := hid n1; clear b1 n1)
  have BL := hid (show Below w1.heap.size w1 (w1.alloc (.cells #[.string ⟨#[115, 116, 97, 116, 117, 116, 101]⟩, .string ⟨#[]⟩, .int .i64 0, .int .i64 0, .int .i64 0, .slice sa sm sc] 26)) from (Below.refl _ _).alloc (Nat.le_refl _) _)
  have X1 := hid (B6.new w1 26 (.string ⟨#[115, 116, 97, 116, 117, 116, 101]⟩) (.string ⟨#[]⟩) (.int .i64 0) (.int .i64 0) (.int .i64 0) (.slice sa sm sc))
  have B2 := hid (nextB B1.out BL.out)
  have N2 := hid (N1.out.next BL.out)
  have T2 := hid (TH.out.next B2.out)
  clear N1 B1 TH KP BL
  generalize World.alloc w1 _ = w2 at *
  generalize w1.heap.size = g1 at *
  have KP2 := hid (show Calls Tryz.prog 7 #[.string ⟨#[114, 117, 108, 101]⟩] w2 (fun e w' => e = .returned (.tuple #[.agg #[.string ⟨#[]⟩, .string ⟨#[]⟩, .int .i64 0, .int .i64 0, .int .i64 0, .slice none 0 0], .int .i64 4, .int .i64 7]) ∧ Below w2.heap.size w2 w') from (parse_no aw2T w2 aw2R _ (by decide) aw2C aw2N aw2W T2.out.kt T2.out.sg).mono fun e w' h => h.inr)
  go_upto_region 3 with (go_at_call 7; with_reducible refine Calls.mono KP2.out ?_; rintro e w3 ⟨rfl, b3⟩; have B3 := hid b3; clear b3)
  have BL := hid (show Below w3.heap.size w3 (w3.alloc (.cells #[.string ⟨#[]⟩, .string ⟨#[]⟩, .int .i64 0, .int .i64 0, .int .i64 0, .slice none 0 0] 26)) from (Below.refl _ _).alloc (Nat.le_refl _) _)
  have B4' := hid (nextB B3.out BL.out)
  have B4 := hid (nextB B2.out B4'.out)
  have X4 := hid (X1.out.next B4'.out)
  have N4 := hid (N2.out.next B4'.out)
  have T4 := hid (T2.out.next B4'.out)
  clear B3 BL B4' B2 X1 N2 T2 KP2
  generalize World.alloc w3 _ = w4 at *
  obtain ⟨x0, x1, x2, x3, x4, x5, xz⟩ := X4.out
  have SK := hid (show Calls Tryz.prog 12 #[.agg #[.string ⟨#[115, 116, 97, 116, 117, 116, 101]⟩, .string ⟨#[]⟩, .int .i64 0, .int .i64 0, .int .i64 0, .slice sa sm sc]] w4 (fun e w' => e = .returned (.string ⟨#[114, 117, 108, 101, 32, 116, 32, 109, 111, 110, 101, 121, 32, 61, 32, 40, 36, 49, 46, 48, 48, 32, 43, 32, 36, 50, 46, 48, 48, 41, 59, 10]⟩) ∧ Below w4.heap.size w4 w') from by
    have := Show_any aw1X w4 sa sm sc _ N4.out (fun B h => aw1G B (Nat.lt_of_lt_of_le T4.out.kt.1 h)) T4.out.pw T4.out.kt (by rw [aw1S]; decide) (by rw [aw1S]; decide)
    rw [aw1S] at this
    exact this)
  have M1 := hid (show ∀ W, Below w4.heap.size w4 W → Calls Tryz.prog 14 #[.agg #[.string ⟨#[115, 116, 97, 116, 117, 116, 101]⟩, .string ⟨#[]⟩, .int .i64 0, .int .i64 0, .int .i64 0, .slice sa sm sc], .agg #[.string ⟨#[115, 116, 97, 116, 117, 116, 101]⟩, .string ⟨#[]⟩, .int .i64 0, .int .i64 0, .int .i64 0, .slice sa sm sc]] W (fun e w' => e = .returned (.bool true) ∧ Below W.heap.size W w') from fun W hW => by
    have := same_any aw1K aw1X W _ sa sa sm sc sm sc (N4.out.any hW) (N4.out.any hW)
    rw [aw1Y] at this
    exact this)
  have M2 := hid (show ∀ W, Below w4.heap.size w4 W → Calls Tryz.prog 14 #[.agg #[.string ⟨#[115, 116, 97, 116, 117, 116, 101]⟩, .string ⟨#[]⟩, .int .i64 0, .int .i64 0, .int .i64 0, .slice sa sm sc], .agg #[.string ⟨#[]⟩, .string ⟨#[]⟩, .int .i64 0, .int .i64 0, .int .i64 0, .slice none 0 0]] W (fun e w' => e = .returned (.bool false) ∧ Below W.heap.size W w') from fun W hW => by
    have := same_any aw1K Tr.zero W _ sa none sm sc 0 0 (N4.out.any hW) .nil
    rw [aw1Z] at this
    exact this)
  go_wp2_with (first
    | (go_at_call 12; with_reducible refine Calls.mono SK.out ?_; rintro e w5 ⟨rfl, b5⟩; obtain ⟨y0, y1, y2, y3, y4, y5, yz⟩ := X4.out.next b5; have D5 := hid b5; clear b5 SK)
    | (go_at_call 14; with_reducible refine Calls.mono (M1.out _ D5.out) ?_; rintro e w6 ⟨rfl, b6⟩; have D6 := hid (nextB D5.out b6); obtain ⟨z0, z1, z2, z3, z4, z5, zz⟩ := X4.out.next D6.out; clear b6 D5)
    | (go_at_call 14; with_reducible refine Calls.mono (M2.out _ D6.out) ?_; rintro e w7 ⟨rfl, b7⟩; have D7 := hid (nextB D6.out b7); clear b7))
  go_ret
  exact ⟨rfl, nextB B4.out D7.out⟩
end Go.Proofs.YtiikdmnmfmfpdaaGreatDoor

