/- Bytes in memory: slices of them, those of a call's own, and what an append makes of them. -/
import Derived.Test.YtjkbiglnpoeddaaDoorRows
import Derived.Test.YtjkbiglnpoeddaaDoorMath
import Derived.WalkKit
import Derived.WalkSpells
import Derived.WalkLawsBesides
import Derived.Handy
import Derived.Laws.BytesArg
import Derived.Laws.AppendOwnNone
import Derived.Lib.AppendStr
import Derived.Deep.LoopGhost
namespace Go.Proofs.YtjkbiglnpoeddaaDoor
open Go.RowKit
set_option linter.unusedVariables false
set_option linter.unusedSimpArgs false

/-- Bytes in memory: a slice of n of them. -/
structure By (w : World) (a : Option Addr) (n cap : Nat) (bs : List Int) : Prop where
  len : bs.length = n
  fits : n ≤ cap
  max : cap ≤ maxLen
  nil : a = none → cap = 0
  cell : ∃ b o : Nat, (0 < n → a = some ⟨b, o, none⟩) ∧ ∀ i, i < n → w.cell? ⟨b, o + i, none⟩ = some (.int .u8 (bs.getD i 0))
  ok : Bys bs

theorem By.old {w : World} {a : Option Addr} {n cap : Nat} {bs : List Int} (h : By w a n cap bs) : 0 < n → ∀ x, a = some x → x.block < w.heap.size := by
  intro p x hx
  obtain ⟨b, o, h1, h2⟩ := h.cell
  have := World.block_lt_of_cell? _ _ (h2 0 p)
  rw [h1 p] at hx
  simp at hx
  subst hx
  exact this
/-- What happens in other blocks leaves them. -/
theorem By.kept {w w' : World} {a : Option Addr} {n cap : Nat} {bs : List Int} (h : By w a n cap bs) (hk : 0 < n → ∀ x, a = some x → w'.heap[x.block]? = w.heap[x.block]?) : By w' a n cap bs := by
  obtain ⟨b, o, h1, h2⟩ := h.cell
  refine ⟨h.len, h.fits, h.max, h.nil, ⟨b, o, h1, fun i hi => ?_⟩, h.ok⟩
  have := hk (by omega) _ (h1 (by omega))
  rw [World.cell?_of_block (w := w) (a := ⟨b, o + i, none⟩) this]
  exact h2 i hi
theorem By.below {w w' : World} {a : Option Addr} {n cap : Nat} {bs : List Int} (h : By w a n cap bs) (hb : Below w.heap.size w w') : By w' a n cap bs :=
  h.kept fun p x hx => hb.block x.block (h.old p x hx)
theorem By.grown {w w' : World} {a : Option Addr} {n cap : Nat} {bs : List Int} {row : Option Nat} (h : By w a n cap bs) (hg : w.grownBy w' row) (hne : 0 < n → ∀ x, a = some x → some x.block ≠ row) : By w' a n cap bs :=
  h.kept fun p x hx => hg.block x.block (h.old p x hx) (hne p x hx)
theorem By.none_nil {w : World} {n cap : Nat} {bs : List Int} (h : By w none n cap bs) : n = 0 ∧ cap = 0 ∧ bs = [] := by
  have c := h.nil rfl
  have f := h.fits
  exact ⟨by omega, c, List.length_eq_zero_iff.1 (by rw [h.len]; omega)⟩
theorem By.empty (w : World) : By w none 0 0 [] := ⟨rfl, Nat.le_refl _, Nat.zero_le _, fun _ => rfl, ⟨0, 0, fun p => absurd p (Nat.lt_irrefl 0), fun i hi => absurd hi (Nat.not_lt_zero i)⟩, Bys.nil⟩

theorem byteInfo : (Tryd.prog.info? 5).map (fun i => (i.zero, i.size, i.bytes)) = some (some (.int .u8 0), 1, 1) := by kernel_rfl

/-- Bytes of a call's own. -/
structure Own (w : World) (base : Nat) (v : Value) (bs : List Int) : Prop where
  row : w.ownsRow base 5 1 v bs.length (bs.map (Value.int .u8))
  ok : Bys bs
theorem Own.by {w : World} {base : Nat} {v : Value} {bs : List Int} (h : Own w base v bs) : ∃ a cap, v = .slice a bs.length cap ∧ By w a bs.length cap bs ∧ (∀ x, a = some x → base ≤ x.block ∧ x.block < w.heap.size) ∧ (a = none ∨ ∃ g, a = some ⟨g, 0, none⟩) := by
  have hh := h.row
  obtain ⟨h1, h2⟩ := h.row
  rcases h2 with ⟨rfl, h3⟩ | ⟨g, cap, cur, rfl, hb, hg, hn, hm, hs, ht⟩
  · have : bs = [] := List.length_eq_zero_iff.1 h3
    subst this
    exact ⟨none, 0, rfl, By.empty w, fun x hx => by simp at hx, Or.inl rfl⟩
  · refine ⟨_, cap, rfl, ⟨rfl, hn, hm, fun e => by simp at e, ⟨g, 0, fun _ => rfl, fun i hi => ?_⟩, h.ok⟩, fun x hx => by simp at hx; subst hx; exact ⟨hb, (Array.getElem?_eq_some_iff.1 hg).1⟩, Or.inr ⟨g, rfl⟩⟩
    have e := hh.cellAt i (by omega)
    rw [Nat.zero_add, e]
    simp [List.getD, hi]
theorem Own.below {w w' : World} {base : Nat} {v : Value} {bs : List Int} (h : Own w base v bs) (hb : Below w.heap.size w w') : Own w' base v bs := by
  refine ⟨⟨h.row.1, ?_⟩, h.ok⟩
  rcases h.row.2 with hn | ⟨g, cap, cur, rfl, hbb, hgg, rest⟩
  · exact .inl hn
  · exact .inr ⟨g, cap, cur, rfl, hbb, by rw [hb.block g (Array.getElem?_eq_some_iff.1 hgg).1]; exact hgg, rest⟩
theorem Own.mono {w : World} {base b' : Nat} {v : Value} {bs : List Int} (h : Own w base v bs) (hb : b' ≤ base) : Own w b' v bs := by
  refine ⟨⟨h.row.1, ?_⟩, h.ok⟩
  rcases h.row.2 with hn | ⟨g, cap, cur, rfl, hbb, rest⟩
  · exact .inl hn
  · exact .inr ⟨g, cap, cur, rfl, by omega, rest⟩
theorem Own.nil (w : World) (base : Nat) : Own w base (.slice none 0 0) [] := ⟨World.ownsRow_nil w base 5 1, Bys.nil⟩
/-- What a call leaves of its own: new memory, all below kept. -/
theorem grown_new {W w w' : World} {v : Value} {bs : List Int} {B : Nat} (hbl : Below B W w) (hB : B ≤ w.heap.size) (h : Own w B v bs) (hg : w.grownBy w' v.ownBlock) : Below B W w' ∧ B ≤ w'.heap.size :=
  ⟨hbl.grown hg hB (fun k hk => (h.row.lt k hk).1), by have := hg.size; omega⟩

/-- Bytes as cells. -/
theorem bytes_one (bs : List Int) : ∀ u ∈ bs.map (Value.int .u8), u.oneCell' = true := by
  intro u hu
  obtain ⟨_, _, rfl⟩ := List.mem_map.1 hu
  rfl
theorem By.news {w : World} {x : Addr} {n cap : Nat} {bs : List Int} (h : By w (some x) n cap bs) : ∀ j u, (bs.map (Value.int .u8))[j]? = some u → w.cell? (x.add j) = some u := by
  intro j u hj
  obtain ⟨b, o, h1, h2⟩ := h.cell
  have hjl : j < bs.length := by
    rcases Nat.lt_or_ge j bs.length with q | q
    · exact q
    · simp [List.getElem?_eq_none (show (bs.map (Value.int .u8)).length ≤ j by simpa using q)] at hj
  have hn : j < n := by rw [← h.len]; exact hjl
  have e := h1 (by omega)
  simp at e
  subst e
  have hplain : (⟨b, o, none⟩ : Addr).add j = ⟨b, o + j, none⟩ := by unfold Addr.add; split <;> simp_all
  rw [hplain, h2 j hn]
  simp [List.getElem?_eq_getElem hjl] at hj
  subst hj
  simp [List.getD, List.getElem?_eq_getElem hjl]

section
variable {w : World} {ops : Array Oper} {rest : List Oper} {o : Oper} {a : Act} {Q : Exit → Act → World → Prop}
/-- 'append(x, bs...)', x a call's own, bs whatever bytes. -/
theorem wpList_append_by (hgd : o.guard = none) (s x : Operand) (ho : o.op = .call { callee := .builtin .append, args := #[s, x], argTypes := #[102, 102] })
    (base : Nat) (v : Value) (xs : List Int) (hs : a.eval s = v) (hown : Own w base v xs) (ad : Option Addr) (m c : Nat) (bs : List Int) (hx : a.eval x = .slice ad m c) (hb : By w ad m c bs)
    (hbytes : xs.length + m ≤ 100000000) (hbase : base ≤ w.heap.size)
    (h : ∀ v' w', Own w' base v' (xs ++ bs) → w.grownBy w' v.ownBlock → wpList Tryd.prog ops Q rest (a.put o.dst v') w') : wpList Tryd.prog ops Q (o :: rest) a w := by
  obtain ⟨i0, hi, hz0, hz1, hz2⟩ := info_parts byteInfo
  cases ad with
  | none =>
    obtain ⟨rfl, rfl, rfl⟩ := hb.none_nil
    exact wpList_append_own_none hgd s x 102 ho base 5 i0 1 Tryd.underlying102 hi v _ _ hs hown.row hx (by simpa using h v w (by simpa using hown) (World.grownBy.refl w _))
  | some ad =>
    refine wpList_append_own w hgd s x 102 ho base 5 i0 (.int .u8 0) 1 1 Tryd.underlying102 hi hz0 hz1 hz2 rfl (by decide) v _ _ hs hown.row ad m c (bs.map (Value.int .u8)) hx (by simp [hb.len]) hb.news (bytes_one bs) (by unfold maxLen; omega) (by omega) hbase ?_
    intro v' w' ho' hg _
    refine h v' w' ⟨?_, hown.ok.app hb.ok⟩ hg
    have e : (xs ++ bs).length = xs.length + m := by simp [hb.len]
    rw [e, List.map_append]
    exact ho'
end

/-- The string of bytes in memory. -/
theorem By.str {w : World} {a : Option Addr} {n cap : Nat} {bs : List Int} (h : By w a n cap bs) : (convert 102 9 (.slice a n cap)).run Tryd.prog w = .ok (.string (strOfNums bs)) w := by
  cases a with
  | none =>
    obtain ⟨rfl, rfl, rfl⟩ := h.none_nil
    exact run_convert_bytes_nil (P := Tryd.prog) w 102 5 Tryd.underlying102 Tryd.underlying5 0 0 9 Tryd.underlying9
  | some x =>
    obtain ⟨b, o, h1, h2⟩ := h.cell
    rcases Nat.eq_zero_or_pos n with q | q
    · subst q
      have : bs = [] := List.length_eq_zero_iff.1 h.len
      subst this
      obtain ⟨xb, xo, xp⟩ := x
      rw [run_convert_bytes_string w 102 9 5 _ 0 cap Tryd.underlying102 Tryd.underlying5 Tryd.underlying9]
      rw [run_bytesToString w _ 0 cap [] (by simp [loadCells, loadCellsFrom])]
      rfl
    · have e := h1 q
      simp at e
      subst e
      exact run_convert_bytes_arg (P := Tryd.prog) w 102 5 Tryd.underlying102 Tryd.underlying5 b o n cap bs h.len h2 9 Tryd.underlying9

end Go.Proofs.YtjkbiglnpoeddaaDoor
