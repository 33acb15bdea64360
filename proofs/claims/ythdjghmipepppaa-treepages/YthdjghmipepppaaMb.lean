/- One-cell things in memory: slices of them (texts, numbers), those of a call's own, and what an append makes of them; a page's values. Plain mathematics of pages: the order of texts, which pages are good, their bytes, and back; the place of a key. append, and where the grown row lies; a new row filled by copy. Plain mathematics of pages, on: bytes read as a page. Plain mathematics of pages, on: rising keys, the place of one, one more, one less. Plain mathematics of pages, on: where a leaf is split. -/
import Derived.Test.YthdjghmipepppaaMa
import Derived.Laws.CopyOwn
import Derived.Lib.Strings
import Derived.Maps.AppendAt
import Derived.Deep.RegionLaw
import Derived.Deep.OwnRows
import Derived.Deep.WholeRow
import Derived.Deep.MidRow
import Derived.Laws.CopyRow
import Derived.Laws.IdiomCopy
namespace Go.Proofs.Ythdjghmipepppaa
open Go.RowKit
set_option linter.unusedVariables false
set_option linter.unusedSimpArgs false

/-- A slice of n things of one cell each. -/
structure Sl (w : World) (a : Option Addr) (n cap : Nat) (vs : List Value) : Prop where
  len : vs.length = n
  fits : n ≤ cap
  max : cap ≤ maxLen
  nil : a = none → cap = 0
  cell : ∃ b o : Nat, (0 < n → a = some ⟨b, o, none⟩) ∧ ∀ i u, vs[i]? = some u → w.cell? ⟨b, o + i, none⟩ = some u
  one : ∀ u ∈ vs, u.oneCell' = true

theorem lt_of_some {α : Type} {l : List α} {i : Nat} {u : α} (h : l[i]? = some u) : i < l.length := by
  rcases Nat.lt_or_ge i l.length with q | q
  · exact q
  · rw [List.getElem?_eq_none q] at h; cases h
theorem Sl.old {w : World} {a : Option Addr} {n cap : Nat} {vs : List Value} (h : Sl w a n cap vs) : 0 < n → ∀ x, a = some x → x.block < w.heap.size := by
  intro p x hx
  obtain ⟨b, o, h1, h2⟩ := h.cell
  have hl := h.len
  have := World.block_lt_of_cell? _ _ (h2 0 _ (List.getElem?_eq_getElem (show 0 < vs.length by omega)))
  rw [h1 p] at hx
  simp at hx
  subst hx
  exact this
theorem Sl.kept {w w' : World} {a : Option Addr} {n cap : Nat} {vs : List Value} (h : Sl w a n cap vs) (hk : 0 < n → ∀ x, a = some x → w'.heap[x.block]? = w.heap[x.block]?) : Sl w' a n cap vs := by
  obtain ⟨b, o, h1, h2⟩ := h.cell
  refine ⟨h.len, h.fits, h.max, h.nil, ⟨b, o, h1, fun i u hi => ?_⟩, h.one⟩
  have hl := h.len
  have := lt_of_some hi
  have := hk (by omega) _ (h1 (by omega))
  rw [World.cell?_of_block (w := w) (a := ⟨b, o + i, none⟩) this]
  exact h2 i u hi
theorem Sl.below {w w' : World} {a : Option Addr} {n cap : Nat} {vs : List Value} (h : Sl w a n cap vs) (hb : Below w.heap.size w w') : Sl w' a n cap vs :=
  h.kept fun p x hx => hb.block x.block (h.old p x hx)
theorem Sl.grown {w w' : World} {a : Option Addr} {n cap : Nat} {vs : List Value} {row : Option Nat} (h : Sl w a n cap vs) (hg : w.grownBy w' row) (hne : 0 < n → ∀ x, a = some x → some x.block ≠ row) : Sl w' a n cap vs :=
  h.kept fun p x hx => hg.block x.block (h.old p x hx) (hne p x hx)
theorem Sl.none_nil {w : World} {n cap : Nat} {vs : List Value} (h : Sl w none n cap vs) : n = 0 ∧ cap = 0 ∧ vs = [] := by
  have c := h.nil rfl
  have f := h.fits
  exact ⟨by omega, c, List.length_eq_zero_iff.1 (by rw [h.len]; omega)⟩
theorem Sl.empty (w : World) : Sl w none 0 0 [] := ⟨rfl, Nat.le_refl _, Nat.zero_le _, fun _ => rfl, ⟨0, 0, fun p => absurd p (Nat.lt_irrefl 0), fun i u hi => by simp at hi⟩, fun u hu => by simp at hu⟩
/-- Its address, and its cells, where there are any. -/
theorem Sl.at {w : World} {a : Option Addr} {n cap : Nat} {vs : List Value} (h : Sl w a n cap vs) (p : 0 < n) : ∃ b o : Nat, a = some ⟨b, o, none⟩ ∧ ∀ i u, vs[i]? = some u → w.cell? ⟨b, o + i, none⟩ = some u := by
  obtain ⟨b, o, h1, h2⟩ := h.cell
  exact ⟨b, o, h1 p, h2⟩
theorem Sl.cells {w : World} {b o n cap : Nat} {vs : List Value} (h : Sl w (some ⟨b, o, none⟩) n cap vs) : ∀ i u, vs[i]? = some u → w.cell? ⟨b, o + i, none⟩ = some u := by
  intro i u hi
  have hl := h.len
  have := lt_of_some hi
  obtain ⟨b', o', h1, h2⟩ := h.cell
  have e := h1 (by omega)
  simp at e
  obtain ⟨rfl, rfl⟩ := e
  exact h2 i u hi
theorem Sl.take {w : World} {b o n cap : Nat} {vs : List Value} (h : Sl w (some ⟨b, o, none⟩) n cap vs) {k : Nat} (hk : k ≤ n) : Sl w (some ⟨b, o, none⟩) k cap (vs.take k) := by
  have hl := h.len
  have hf := h.fits
  have hc := h.cells
  refine ⟨by simp; omega, by omega, h.max, fun e => by simp at e, ⟨b, o, fun _ => rfl, fun i u hi => ?_⟩, fun u hu => h.one u (List.mem_of_mem_take hu)⟩
  have hik : i < k := by have := lt_of_some hi; simp at this; omega
  rw [List.getElem?_take_of_lt hik] at hi
  exact hc i u hi
theorem Sl.drop {w : World} {b o n cap : Nat} {vs : List Value} (h : Sl w (some ⟨b, o, none⟩) n cap vs) {k : Nat} (hk : k ≤ n) {o' : Nat} (ho : k < n → o' = o + k) : Sl w (some ⟨b, o', none⟩) (n - k) (cap - k) (vs.drop k) := by
  have hl := h.len
  have hf := h.fits
  have hm := h.max
  have hc := h.cells
  refine ⟨by simp; omega, by omega, by omega, fun e => by simp at e, ⟨b, o', fun _ => rfl, fun i u hi => ?_⟩, fun u hu => h.one u (List.mem_of_mem_drop hu)⟩
  have hik : i < n - k := by have := lt_of_some hi; simp at this; omega
  rw [List.getElem?_drop] at hi
  rw [ho (by omega), Nat.add_assoc]
  exact hc (k + i) u hi
theorem Sl.news {w : World} {x : Addr} {n cap : Nat} {vs : List Value} (h : Sl w (some x) n cap vs) : ∀ j u, vs[j]? = some u → w.cell? (x.add j) = some u := by
  intro j u hj
  have hl := h.len
  have := lt_of_some hj
  obtain ⟨b, o, h1, h2⟩ := h.cell
  have e := h1 (by omega)
  simp at e
  subst e
  have hplain : (⟨b, o, none⟩ : Addr).add j = ⟨b, o + j, none⟩ := by unfold Addr.add; split <;> simp_all
  rw [hplain]
  exact h2 j u hj

/-- Things of a call's own. -/
structure Ow (w : World) (T : TypeId) (base : Nat) (v : Value) (vs : List Value) : Prop where
  row : w.ownsRow base T 1 v vs.length vs
  one : ∀ u ∈ vs, u.oneCell' = true
theorem Ow.sl {w : World} {T : TypeId} {base : Nat} {v : Value} {vs : List Value} (h : Ow w T base v vs) : ∃ a cap, v = .slice a vs.length cap ∧ Sl w a vs.length cap vs ∧ (∀ x, a = some x → base ≤ x.block ∧ x.block < w.heap.size) ∧ (a = none ∨ ∃ g, a = some ⟨g, 0, none⟩) := by
  rcases h.row.2 with ⟨hv, h0⟩ | ⟨g, cap, cur, hv, hb, hg, hn, hm, hs, ht⟩
  · have : vs = [] := List.length_eq_zero_iff.1 h0
    subst this
    exact ⟨none, 0, hv, Sl.empty w, fun x hx => by simp at hx, Or.inl rfl⟩
  · have gl := (Array.getElem?_eq_some_iff.1 hg).1
    refine ⟨_, cap, hv, ⟨rfl, hn, hm, fun e => by simp at e, ⟨g, 0, fun _ => rfl, fun i u hi => ?_⟩, h.one⟩, fun x hx => by simp at hx; subst hx; exact ⟨hb, gl⟩, Or.inr ⟨g, rfl⟩⟩
    have hil := lt_of_some hi
    rw [Nat.mul_one] at ht hs
    have e : cur[i]? = some u := by
      rw [← ht, List.getElem?_take_of_lt hil, Array.getElem?_toList] at hi
      exact hi
    rw [Nat.zero_add]
    simp [World.cell?, hg, e]
theorem Ow.below {w w' : World} {T : TypeId} {base : Nat} {v : Value} {vs : List Value} (h : Ow w T base v vs) (hb : Below w.heap.size w w') : Ow w' T base v vs := by
  refine ⟨⟨h.row.1, ?_⟩, h.one⟩
  rcases h.row.2 with hn | ⟨g, cap, cur, rfl, hbb, hgg, rest⟩
  · exact .inl hn
  · exact .inr ⟨g, cap, cur, rfl, hbb, by rw [hb.block g (Array.getElem?_eq_some_iff.1 hgg).1]; exact hgg, rest⟩
theorem Ow.grown {w w' : World} {T : TypeId} {base : Nat} {v : Value} {vs : List Value} {row : Option Nat} (h : Ow w T base v vs) (hg : w.grownBy w' row) (hne : ∀ g, v.ownBlock = some g → some g ≠ row) : Ow w' T base v vs := by
  refine ⟨⟨h.row.1, ?_⟩, h.one⟩
  rcases h.row.2 with hn | ⟨g, cap, cur, rfl, hbb, hgg, rest⟩
  · exact .inl hn
  · exact .inr ⟨g, cap, cur, rfl, hbb, by rw [hg.block g (Array.getElem?_eq_some_iff.1 hgg).1 (hne g rfl)]; exact hgg, rest⟩
theorem Ow.mono {w : World} {T : TypeId} {base b' : Nat} {v : Value} {vs : List Value} (h : Ow w T base v vs) (hb : b' ≤ base) : Ow w T b' v vs := by
  refine ⟨⟨h.row.1, ?_⟩, h.one⟩
  rcases h.row.2 with hn | ⟨g, cap, cur, rfl, hbb, rest⟩
  · exact .inl hn
  · exact .inr ⟨g, cap, cur, rfl, by omega, rest⟩
theorem Ow.nil (w : World) (T : TypeId) (base : Nat) : Ow w T base (.slice none 0 0) [] := ⟨World.ownsRow_nil w base T 1, fun u hu => by simp at hu⟩
theorem ow_empty (w : World) (T : TypeId) : Ow (w.alloc (.cells #[] T)) T w.heap.size (.slice (some ⟨w.heap.size, 0, none⟩) 0 0) [] :=
  ⟨⟨rfl, .inr ⟨w.heap.size, 0, #[], rfl, Nat.le_refl _, heap_alloc_new w _, Nat.le_refl _, Nat.zero_le _, rfl, rfl⟩⟩, fun u hu => by simp at hu⟩
theorem sl_new (w : World) (u : Value) (T : TypeId) (h : u.oneCell' = true) : Sl (w.alloc (.cells #[u] T)) (some ⟨w.heap.size, 0, none⟩) 1 1 [u] :=
  ⟨rfl, Nat.le_refl _, by decide, fun e => by simp at e, ⟨w.heap.size, 0, fun _ => rfl, fun i x hi => by
    have := lt_of_some hi
    obtain rfl : i = 0 := by simp at this; omega
    simp at hi
    subst hi
    simp⟩, fun x hx => by simp at hx; subst hx; exact h⟩

section
variable {w : World} {ops : Array Oper} {rest : List Oper} {o : Oper} {a : Act} {Q : Exit → Act → World → Prop}
/-- 'append(x, vs...)', x a call's own, vs whatever things of one cell. -/
theorem wpList_append_sl (S T : TypeId) (z : Value) (by0 : Nat) (hu : Try.prog.underlying S = some (.slice T)) (hinf : (Try.prog.info? T).map (fun i => (i.zero, i.size, i.bytes)) = some (some z, 1, by0)) (hz : z.cells.size = 1) (hby : by0 ≤ 16)
    (hgd : o.guard = none) (s x : Operand) (ho : o.op = .call { callee := .builtin .append, args := #[s, x], argTypes := #[S, S] })
    (base : Nat) (v : Value) (xs : List Value) (hs : a.eval s = v) (hown : Ow w T base v xs) (ad : Option Addr) (m c : Nat) (vs : List Value) (hx : a.eval x = .slice ad m c) (hb : Sl w ad m c vs)
    (hbytes : xs.length + m ≤ 1000000) (hbase : base ≤ w.heap.size)
    (h : ∀ v' w', Ow w' T base v' (xs ++ vs) → w.grownBy w' v.ownBlock → wpList Try.prog ops Q rest (a.put o.dst v') w') : wpList Try.prog ops Q (o :: rest) a w := by
  obtain ⟨i0, hi, hz0, hz1, hz2⟩ := info_parts hinf
  cases ad with
  | none =>
    obtain ⟨rfl, rfl, rfl⟩ := hb.none_nil
    exact wpList_append_own_none hgd s x S ho base T i0 1 hu hi v _ _ hs hown.row hx (by simpa using h v w (by simpa using hown) (World.grownBy.refl w _))
  | some ad =>
    refine wpList_append_own w hgd s x S ho base T i0 z 1 by0 hu hi hz0 hz1 hz2 hz (by decide) v _ _ hs hown.row ad m c vs hx (by simp [hb.len]) hb.news hb.one (by unfold maxLen; omega) ?_ hbase ?_
    · have : (xs.length + m) * by0 ≤ 1000000 * 16 := Nat.mul_le_mul hbytes hby
      omega
    intro v' w' ho' hg _
    refine h v' w' ⟨?_, fun u hu => ?_⟩ hg
    · have e : (xs ++ vs).length = xs.length + m := by simp [hb.len]
      rw [e]
      exact ho'
    · rcases List.mem_append.1 hu with q | q
      · exact hown.one u q
      · exact hb.one u q
end

/-- Texts and numbers as cells. -/
def sv (ss : List ByteArray) : List Value := ss.map Value.string
def kv (ks : List Nat) : List Value := ks.map fun k => Value.int .u64 (k : Nat)
theorem sv_len (ss : List ByteArray) : (sv ss).length = ss.length := by simp [sv]
theorem kv_len (ks : List Nat) : (kv ks).length = ks.length := by simp [kv]
theorem sv_app (a b : List ByteArray) : sv (a ++ b) = sv a ++ sv b := by simp [sv]
theorem kv_app (a b : List Nat) : kv (a ++ b) = kv a ++ kv b := by simp [kv]
theorem sv_take (a : List ByteArray) (k : Nat) : (sv a).take k = sv (a.take k) := by simp [sv]
theorem sv_drop (a : List ByteArray) (k : Nat) : (sv a).drop k = sv (a.drop k) := by simp [sv]
theorem kv_take (a : List Nat) (k : Nat) : (kv a).take k = kv (a.take k) := by simp [kv]
theorem kv_drop (a : List Nat) (k : Nat) : (kv a).drop k = kv (a.drop k) := by simp [kv]
theorem sv_one (ss : List ByteArray) : ∀ u ∈ sv ss, u.oneCell' = true := by
  intro u hu
  obtain ⟨_, _, rfl⟩ := List.mem_map.1 hu
  rfl
theorem kv_one (ks : List Nat) : ∀ u ∈ kv ks, u.oneCell' = true := by
  intro u hu
  obtain ⟨_, _, rfl⟩ := List.mem_map.1 hu
  rfl
theorem sv_get {ss : List ByteArray} {i : Nat} (h : i < ss.length) : (sv ss)[i]? = some (.string (ss.getD i ByteArray.empty)) := by
  simp [sv, List.getD, h]
theorem kv_get {ks : List Nat} {i : Nat} (h : i < ks.length) : (kv ks)[i]? = some (.int .u64 ((ks.getD i 0 : Nat) : Int)) := by
  simp [kv, List.getD, h]
/-- What a text's or a number's cell holds. -/
theorem Sl.str {w : World} {b o n cap : Nat} {ss : List ByteArray} (h : Sl w (some ⟨b, o, none⟩) n cap (sv ss)) {i : Nat} (hi : i < n) : w.cell? ⟨b, o + i, none⟩ = some (.string (ss.getD i ByteArray.empty)) := by
  have := h.len
  rw [sv_len] at this
  exact h.cells i _ (sv_get (by omega))
theorem Sl.num {w : World} {b o n cap : Nat} {ks : List Nat} (h : Sl w (some ⟨b, o, none⟩) n cap (kv ks)) {i : Nat} (hi : i < n) : w.cell? ⟨b, o + i, none⟩ = some (.int .u64 ((ks.getD i 0 : Nat) : Int)) := by
  have := h.len
  rw [kv_len] at this
  exact h.cells i _ (kv_get (by omega))
theorem Sl.slen {w : World} {a : Option Addr} {n cap : Nat} {ss : List ByteArray} (h : Sl w a n cap (sv ss)) : ss.length = n := by rw [← sv_len]; exact h.len
theorem Sl.klen {w : World} {a : Option Addr} {n cap : Nat} {ks : List Nat} (h : Sl w a n cap (kv ks)) : ks.length = n := by rw [← kv_len]; exact h.len

theorem strInfo : (Try.prog.info? 9).map (fun i => (i.zero, i.size, i.bytes)) = some (some (.string ByteArray.empty), 1, 16) := by kernel_rfl
theorem u64Info : (Try.prog.info? 27).map (fun i => (i.zero, i.size, i.bytes)) = some (some (.int .u64 0), 1, 8) := by kernel_rfl
theorem strSz : (Try.prog.info? 9).map (·.size) = some 1 := by kernel_rfl

/-- A page. -/
structure Pg where
  leaf : Bool
  keys : List ByteArray
  vals : List ByteArray
  kids : List Nat

/-- A page as a value. -/
structure Pv (w : World) (v : Value) (p : Pg) : Prop where
  ex : ∃ (ka : Option Addr) (kn kc : Nat) (va : Option Addr) (vn vc : Nat) (ia : Option Addr) (im ic : Nat), v = .agg #[.bool p.leaf, .slice ka kn kc, .slice va vn vc, .slice ia im ic] ∧ Sl w ka kn kc (sv p.keys) ∧ Sl w va vn vc (sv p.vals) ∧ Sl w ia im ic (kv p.kids)
  kid : ∀ k ∈ p.kids, k < 18446744073709551616
theorem Pv.below {w w' : World} {v : Value} {p : Pg} (h : Pv w v p) (hb : Below w.heap.size w w') : Pv w' v p := by
  obtain ⟨ka, kn, kc, va, vn, vc, ia, im, ic, e, h1, h2, h3⟩ := h.ex
  exact ⟨⟨ka, kn, kc, va, vn, vc, ia, im, ic, e, h1.below hb, h2.below hb, h3.below hb⟩, h.kid⟩
theorem Pv.mk' {w : World} {lf : Bool} {ks vs : List ByteArray} {is : List Nat} {ka : Option Addr} {kn kc : Nat} {va : Option Addr} {vn vc : Nat} {ia : Option Addr} {im ic : Nat} (h1 : Sl w ka kn kc (sv ks)) (h2 : Sl w va vn vc (sv vs)) (h3 : Sl w ia im ic (kv is)) (hk : ∀ k ∈ is, k < 18446744073709551616) : Pv w (.agg #[.bool lf, .slice ka kn kc, .slice va vn vc, .slice ia im ic]) ⟨lf, ks, vs, is⟩ :=
  ⟨⟨ka, kn, kc, va, vn, vc, ia, im, ic, rfl, h1, h2, h3⟩, hk⟩
/-- A page is returned; what was there stays. -/
def NewP (w w' : World) (e : Ending) (p : Pg) : Prop := (∃ v, e = .returned v ∧ Pv w' v p) ∧ Below w.heap.size w w'

end Go.Proofs.Ythdjghmipepppaa

namespace Go.Proofs.Ythdjghmipepppaa
open Go.RowKit
set_option linter.unusedVariables false
set_option linter.unusedSimpArgs false

/-- The order of texts. -/
def ltS (a b : ByteArray) : Bool := Op.bytesLess a.toList b.toList
theorem less_irrefl : ∀ x : List UInt8, Op.bytesLess x x = false
  | [] => rfl
  | a :: x => by simp [Op.bytesLess, less_irrefl x]
theorem less_trans : ∀ x y z : List UInt8, Op.bytesLess x y = true → Op.bytesLess y z = true → Op.bytesLess x z = true
  | x, y, [] => by intro _ h; cases y <;> simp [Op.bytesLess] at h
  | [], y, c :: z => by intro _ _; rfl
  | a :: x, [], c :: z => by intro h; simp [Op.bytesLess] at h
  | a :: x, b :: y, c :: z => by
    intro h k
    simp only [Op.bytesLess, Bool.or_eq_true, Bool.and_eq_true, decide_eq_true_eq, beq_iff_eq] at h k ⊢
    rcases h with h | ⟨rfl, h⟩
    · rcases k with k | ⟨rfl, k⟩
      · exact Or.inl (UInt8.lt_trans h k)
      · exact Or.inl h
    · rcases k with k | ⟨rfl, k⟩
      · exact Or.inl k
      · exact Or.inr ⟨rfl, less_trans x y z h k⟩
theorem less_total : ∀ x y : List UInt8, Op.bytesLess x y = false → Op.bytesLess y x = false → x = y
  | [], [] => fun _ _ => rfl
  | [], b :: y => by intro h; simp [Op.bytesLess] at h
  | a :: x, [] => by intro _ h; simp [Op.bytesLess] at h
  | a :: x, b :: y => by
    intro h k
    simp only [Op.bytesLess, Bool.or_eq_false_iff, decide_eq_false_iff_not, Bool.and_eq_false_iff, beq_eq_false_iff_ne] at h k
    have e : a = b := UInt8.le_antisymm (UInt8.not_lt.1 k.1) (UInt8.not_lt.1 h.1)
    subst e
    have h2 : Op.bytesLess x y = false := by rcases h.2 with q | q; exact absurd rfl q; exact q
    have k2 : Op.bytesLess y x = false := by rcases k.2 with q | q; exact absurd rfl q; exact q
    rw [less_total x y h2 k2]
theorem toL_inj {a b : ByteArray} (h : a.toList = b.toList) : a = b := by
  rw [Lib.toList_data, Lib.toList_data] at h
  obtain ⟨⟨a⟩⟩ := a
  obtain ⟨⟨b⟩⟩ := b
  simp at h
  rw [h]
theorem toL_eq (a b : ByteArray) : (a.toList == b.toList) = decide (a = b) := by
  by_cases h : a = b
  · subst h; simp
  · rw [decide_eq_false h, beq_eq_false_iff_ne]; exact fun e => h (toL_inj e)
theorem ltS_irrefl (a : ByteArray) : ltS a a = false := less_irrefl _
theorem ltS_trans {a b c : ByteArray} (h : ltS a b = true) (k : ltS b c = true) : ltS a c = true := less_trans _ _ _ h k
theorem ltS_total {a b : ByteArray} (h : ltS a b = false) (k : ltS b a = false) : a = b := toL_inj (less_total _ _ h k)
theorem ltS_asym {a b : ByteArray} (h : ltS a b = true) : ltS b a = false := by
  cases k : ltS b a with
  | false => rfl
  | true => have := ltS_trans h k; rw [ltS_irrefl] at this; cases this
theorem ltS_ne {a b : ByteArray} (h : ltS a b = true) : a ≠ b := by
  intro e; subst e; rw [ltS_irrefl] at h; cases h

/-- The key i of a page's keys. -/
def kAt (ks : List ByteArray) (i : Nat) : ByteArray := ks.getD i ByteArray.empty
theorem kAt_get {ks : List ByteArray} {i : Nat} (h : i < ks.length) : kAt ks i = ks[i] := by simp [kAt, List.getD, h]
def kOk (ks : List ByteArray) (i : Nat) : Bool := decide (1 ≤ (kAt ks i).size) && decide ((kAt ks i).size ≤ 40) && (decide (i = 0) || ltS (kAt ks (i - 1)) (kAt ks i))
def keysB (ks : List ByteArray) : Bool := (List.range ks.length).all (kOk ks)
def valsB (vs : List ByteArray) : Bool := (List.range vs.length).all fun i => decide ((kAt vs i).size ≤ 400)
def kidsB (is : List Nat) : Bool := (List.range is.length).all fun i => decide (is.getD i 0 ≠ 0)
theorem keysB_true {ks : List ByteArray} (h : ∀ j, j < ks.length → kOk ks j = true) : keysB ks = true := by
  unfold keysB; rw [List.all_eq_true]; intro x hx; exact h x (List.mem_range.1 hx)
theorem keysB_false {ks : List ByteArray} {j : Nat} (hj : j < ks.length) (h : kOk ks j = false) : keysB ks = false := by
  unfold keysB; rw [List.all_eq_false]; exact ⟨j, List.mem_range.2 hj, by rw [h]; decide⟩
theorem keysB_at {ks : List ByteArray} (h : keysB ks = true) {j : Nat} (hj : j < ks.length) : kOk ks j = true := by
  unfold keysB at h; rw [List.all_eq_true] at h; exact h j (List.mem_range.2 hj)
theorem valsB_true {vs : List ByteArray} (h : ∀ j, j < vs.length → (kAt vs j).size ≤ 400) : valsB vs = true := by
  unfold valsB; rw [List.all_eq_true]; intro x hx; exact decide_eq_true (h x (List.mem_range.1 hx))
theorem valsB_false {vs : List ByteArray} {j : Nat} (hj : j < vs.length) (h : 400 < (kAt vs j).size) : valsB vs = false := by
  unfold valsB; rw [List.all_eq_false]; exact ⟨j, List.mem_range.2 hj, by simp; omega⟩
theorem valsB_at {vs : List ByteArray} (h : valsB vs = true) {j : Nat} (hj : j < vs.length) : (kAt vs j).size ≤ 400 := by
  unfold valsB at h; rw [List.all_eq_true] at h; exact of_decide_eq_true (h j (List.mem_range.2 hj))
theorem kidsB_true {is : List Nat} (h : ∀ j, j < is.length → is.getD j 0 ≠ 0) : kidsB is = true := by
  unfold kidsB; rw [List.all_eq_true]; intro x hx; exact decide_eq_true (h x (List.mem_range.1 hx))
theorem kidsB_false {is : List Nat} {j : Nat} (hj : j < is.length) (h : is.getD j 0 = 0) : kidsB is = false := by
  unfold kidsB; rw [List.all_eq_false]; exact ⟨j, List.mem_range.2 hj, by rw [decide_eq_false (by rw [h]; exact fun e => e rfl)]; decide⟩
theorem kidsB_nil : kidsB [] = true := rfl
theorem valsB_nil : valsB [] = true := rfl

def shapeB (p : Pg) : Bool := if p.leaf then decide (p.vals.length = p.keys.length) && decide (p.kids.length = 0) else decide (p.vals.length = 0) && decide (p.kids.length = p.keys.length + 1)
/-- May a page be? -/
def goodB (p : Pg) : Bool := keysB p.keys && (valsB p.vals && (kidsB p.kids && shapeB p))
theorem goodB_parts {p : Pg} (h : goodB p = true) : keysB p.keys = true ∧ valsB p.vals = true ∧ kidsB p.kids = true ∧ shapeB p = true := by
  unfold goodB at h
  simp only [Bool.and_eq_true] at h
  exact ⟨h.1, h.2.1, h.2.2.1, h.2.2.2⟩
theorem goodB_leaf {p : Pg} (h : goodB p = true) (l : p.leaf = true) : p.vals.length = p.keys.length ∧ p.kids = [] := by
  have := (goodB_parts h).2.2.2
  unfold shapeB at this
  rw [l] at this
  simp at this
  exact this
theorem goodB_branch {p : Pg} (h : goodB p = true) (l : p.leaf = false) : p.vals = [] ∧ p.kids.length = p.keys.length + 1 := by
  have := (goodB_parts h).2.2.2
  unfold shapeB at this
  rw [l] at this
  simp at this
  exact this

/-- A text's bytes, its length ahead. -/
def encS (s : ByteArray) : List Int := enc s.size ++ nums s
theorem encS_len (s : ByteArray) : (encS s).length = (enc s.size).length + s.size := by unfold encS; rw [List.length_append, nums_len]
theorem bys_encS (s : ByteArray) : Bys (encS s) := (bys_enc _).app (nums_bys s)
/-- The items of a leaf, one behind the other. -/
def encI : List ByteArray → List ByteArray → List Int
  | k :: ks, v :: vs => encS k ++ encS v ++ encI ks vs
  | _, _ => []
def encK : List ByteArray → List Int
  | [] => []
  | k :: ks => encS k ++ encK ks
def encN : List Nat → List Int
  | [] => []
  | k :: ks => enc k ++ encN ks
theorem encI_app : ∀ (a b c d : List ByteArray), a.length = b.length → encI (a ++ c) (b ++ d) = encI a b ++ encI c d
  | [], [], c, d, _ => rfl
  | k :: a, v :: b, c, d, h => by simp only [List.cons_append, encI, encI_app a b c d (by simpa using h), List.append_assoc]
  | [], _ :: _, _, _, h => by simp at h
  | _ :: _, [], _, _, h => by simp at h
theorem encK_app : ∀ (a c : List ByteArray), encK (a ++ c) = encK a ++ encK c
  | [], c => rfl
  | k :: a, c => by simp only [List.cons_append, encK, encK_app a c, List.append_assoc]
theorem encN_app : ∀ (a c : List Nat), encN (a ++ c) = encN a ++ encN c
  | [], c => rfl
  | k :: a, c => by simp only [List.cons_append, encN, encN_app a c, List.append_assoc]
theorem take_snoc {α : Type} {l : List α} {k : Nat} (h : k < l.length) (d : α) : l.take (k + 1) = l.take k ++ [l.getD k d] := by
  rw [List.take_succ_eq_append_getElem h]
  simp [List.getD, h]
theorem encI_snoc {ks vs : List ByteArray} {k : Nat} (h : k < ks.length) (e : vs.length = ks.length) : encI (ks.take (k + 1)) (vs.take (k + 1)) = encI (ks.take k) (vs.take k) ++ (encS (kAt ks k) ++ encS (kAt vs k)) := by
  rw [take_snoc h ByteArray.empty, take_snoc (l := vs) (by omega) ByteArray.empty, encI_app _ _ _ _ (by simp; omega)]
  simp [encI, kAt]
theorem encK_snoc {ks : List ByteArray} {k : Nat} (h : k < ks.length) : encK (ks.take (k + 1)) = encK (ks.take k) ++ encS (kAt ks k) := by
  rw [take_snoc h ByteArray.empty, encK_app]
  simp [encK, kAt]
theorem encN_snoc {ks : List Nat} {k : Nat} (h : k < ks.length) : encN (ks.take (k + 1)) = encN (ks.take k) ++ enc (ks.getD k 0) := by
  rw [take_snoc h 0, encN_app]
  simp [encN]
def mark (l : Bool) : Int := if l then 76 else 66
def encH (l : Bool) (n : Nat) : List Int := mark l :: enc n
/-- A page's bytes. -/
def encP (p : Pg) : List Int := encH p.leaf p.keys.length ++ (if p.leaf then encI p.keys p.vals else encK p.keys ++ encN p.kids)
theorem encP_leaf {p : Pg} (h : p.leaf = true) : encP p = encH true p.keys.length ++ encI p.keys p.vals := by unfold encP; rw [h, if_pos rfl]
theorem encP_branch {p : Pg} (h : p.leaf = false) : encP p = encH false p.keys.length ++ (encK p.keys ++ encN p.kids) := by unfold encP; rw [h, if_neg (by decide)]

/-- How many bytes texts have. -/
def tot : List ByteArray → Nat
  | [] => 0
  | s :: ss => s.size + tot ss
theorem tot_app : ∀ a b : List ByteArray, tot (a ++ b) = tot a + tot b
  | [], b => by simp [tot]
  | s :: a, b => by simp only [List.cons_append, tot, tot_app a b]; omega
theorem tot_take_le : ∀ (ss : List ByteArray) (k : Nat), tot (ss.take k) ≤ tot ss
  | [], k => by simp
  | s :: ss, 0 => by simp [tot]
  | s :: ss, k + 1 => by simp only [List.take_succ_cons, tot]; have := tot_take_le ss k; omega
theorem tot_drop_le : ∀ (ss : List ByteArray) (k : Nat), tot (ss.drop k) ≤ tot ss
  | [], k => by simp
  | s :: ss, 0 => by simp
  | s :: ss, k + 1 => by simp only [List.drop_succ_cons, tot]; have := tot_drop_le ss k; omega
theorem tot_at {ss : List ByteArray} {k : Nat} (h : k < ss.length) : tot (ss.take (k + 1)) = tot (ss.take k) + (kAt ss k).size := by
  rw [take_snoc h ByteArray.empty, tot_app]; simp [tot, kAt]
theorem kAt_le {ss : List ByteArray} (k : Nat) : (kAt ss k).size ≤ tot ss := by
  by_cases h : k < ss.length
  · have := tot_at h; have := tot_take_le ss (k + 1); omega
  · have : kAt ss k = ByteArray.empty := by simp [kAt, List.getD, show ss.length ≤ k by omega]
    rw [this]; exact Nat.zero_le _
theorem encS_le (s : ByteArray) (h : s.size ≤ 100000) : (encS s).length ≤ s.size + 10 := by
  rw [encS_len]; have := enc_len10 (u := s.size) (by omega); omega
theorem encI_le : ∀ ks vs : List ByteArray, tot ks ≤ 100000 → tot vs ≤ 100000 → (encI ks vs).length ≤ tot ks + tot vs + 20 * ks.length
  | [], vs => by intro _ _; simp [encI]
  | k :: ks, [] => by intro _ _; simp [encI]
  | k :: ks, v :: vs => by
    intro h1 h2
    simp only [tot] at h1 h2
    have := encI_le ks vs (by omega) (by omega)
    have := encS_le k (by omega)
    have := encS_le v (by omega)
    simp only [encI, List.length_append, tot, List.length_cons]
    omega
theorem encK_le : ∀ ks : List ByteArray, tot ks ≤ 100000 → (encK ks).length ≤ tot ks + 10 * ks.length
  | [] => by intro _; simp [encK]
  | k :: ks => by
    intro h1
    simp only [tot] at h1
    have := encK_le ks (by omega)
    have := encS_le k (by omega)
    simp only [encK, List.length_append, tot, List.length_cons]
    omega
theorem encN_le : ∀ ks : List Nat, (∀ k ∈ ks, k < 18446744073709551616) → (encN ks).length ≤ 10 * ks.length
  | [] => by intro _; simp [encN]
  | k :: ks => by
    intro h1
    have := encN_le ks (fun x hx => h1 x (by simp [hx]))
    have := enc_len10 (h1 k (by simp))
    simp only [encN, List.length_append, List.length_cons]
    omega
/-- A page within bounds: what the walks ask. -/
structure Bd (p : Pg) : Prop where
  keys : p.keys.length ≤ 90000
  vals : p.vals.length ≤ 90000
  kids : p.kids.length ≤ 90001
  tk : tot p.keys ≤ 90000
  tv : tot p.vals ≤ 90000
  kid : ∀ k ∈ p.kids, k < 18446744073709551616
structure Fit (p : Pg) : Prop where
  keys : p.keys.length ≤ 2000
  vals : p.vals.length ≤ 2000
  kids : p.kids.length ≤ 2001
  tk : tot p.keys ≤ 10000
  tv : tot p.vals ≤ 10000
  kid : ∀ k ∈ p.kids, k < 18446744073709551616
  even : p.leaf = true → p.vals.length = p.keys.length
theorem Fit.bd {p : Pg} (f : Fit p) : Bd p := by
  have a := f.keys
  have b := f.vals
  have c := f.kids
  have d := f.tk
  have e := f.tv
  exact ⟨by omega, by omega, by omega, by omega, by omega, f.kid⟩

end Go.Proofs.Ythdjghmipepppaa

namespace Go.Proofs.Ythdjghmipepppaa
open Go.RowKit
set_option linter.unusedVariables false
set_option linter.unusedSimpArgs false

/-- Where the grown row lies: where it lay, or in the newest block. -/
def Lies (w : World) (v v' : Value) : Prop := v'.ownBlock = v.ownBlock ∨ v'.ownBlock = some w.heap.size

theorem run_append_sl {w : World} (S T : TypeId) (z : Value) (by0 : Nat) (hu : Try.prog.underlying S = some (.slice T)) (hinf : (Try.prog.info? T).map (fun i => (i.zero, i.size, i.bytes)) = some (some z, 1, by0)) (hz : z.cells.size = 1) (hby : by0 ≤ 16) (ty : TypeId)
    (base : Nat) (v : Value) (xs : List Value) (hown : Ow w T base v xs) (ad : Option Addr) (m c : Nat) (vs : List Value) (hb : Sl w ad m c vs) (hbytes : xs.length + m ≤ 1000000) (hbase : base ≤ w.heap.size) :
    ∃ v' w', (Builtin.append_ #[S, S] ty #[v, .slice ad m c]).run Try.prog w = .ok v' w' ∧ Ow w' T base v' (xs ++ vs) ∧ w.grownBy w' v.ownBlock ∧ Lies w v v' := by
  obtain ⟨i0, hi, hz0, hz1, hz2⟩ := info_parts hinf
  cases ad with
  | none =>
    obtain ⟨rfl, rfl, rfl⟩ := hb.none_nil
    exact ⟨v, w, run_append_owned_none w base S ty T i0 1 hu hi v _ _ hown.row, by simpa using hown, World.grownBy.refl w _, Or.inl rfl⟩
  | some ad =>
    obtain ⟨v', w', hr, h2, h3, h4, h5⟩ := run_append_own_at (P := Try.prog) w base S ty T i0 z 1 by0 hu hi hz0 hz1 hz2 hz (by decide) v _ _ hown.row ad m c vs (by simp [hb.len]) hb.news hb.one (by unfold maxLen; omega) (by
      have : (xs.length + m) * by0 ≤ 1000000 * 16 := Nat.mul_le_mul hbytes hby
      omega) hbase
    refine ⟨v', w', hr, ⟨?_, fun u hu => ?_⟩, h3, h5⟩
    · have e : (xs ++ vs).length = xs.length + m := by simp [hb.len]
      rw [e]
      exact h2
    · rcases List.mem_append.1 hu with q | q
      · exact hown.one u q
      · exact hb.one u q

section
variable {w : World} {ops : Array Oper} {rest : List Oper} {o : Oper} {a : Act} {K : Act → World → Prop} {Q : Exit → Act → World → Prop} {E : Prop}
theorem wpList_append_sa (S T : TypeId) (z : Value) (by0 : Nat) (hu : Try.prog.underlying S = some (.slice T)) (hinf : (Try.prog.info? T).map (fun i => (i.zero, i.size, i.bytes)) = some (some z, 1, by0)) (hz : z.cells.size = 1) (hby : by0 ≤ 16)
    (hgd : o.guard = none) (s x : Operand) (ho : o.op = .call { callee := .builtin .append, args := #[s, x], argTypes := #[S, S] })
    (base : Nat) (v : Value) (xs : List Value) (hs : a.eval s = v) (hown : Ow w T base v xs) (ad : Option Addr) (m c : Nat) (vs : List Value) (hx : a.eval x = .slice ad m c) (hb : Sl w ad m c vs)
    (hbytes : xs.length + m ≤ 1000000) (hbase : base ≤ w.heap.size)
    (h : ∀ v' w', Ow w' T base v' (xs ++ vs) → w.grownBy w' v.ownBlock → Lies w v v' → wpList Try.prog ops Q rest (a.put o.dst v') w') : wpList Try.prog ops Q (o :: rest) a w := by
  refine wpList_plain hgd fun K hK => ?_
  obtain ⟨v', w', hr, h2, h3, h4⟩ := run_append_sl S T z by0 hu hinf hz hby o.type base v xs hown ad m c vs hb hbytes hbase
  unfold Oper.wp execOp
  simp only [ho, resolve, invoke, builtin, Sem.run_bind, Sem.run_pure, Result.andThen_ok, List.map_toArray, List.map_cons, List.map_nil, hs, hx, hr]
  exact hK _ _ (h v' w' h2 h3 h4)
theorem step_append_sa (S T : TypeId) (z : Value) (by0 : Nat) (hu : Try.prog.underlying S = some (.slice T)) (hinf : (Try.prog.info? T).map (fun i => (i.zero, i.size, i.bytes)) = some (some z, 1, by0)) (hz : z.cells.size = 1) (hby : by0 ≤ 16)
    (hgd : o.guard = none) (s x : Operand) (ho : o.op = .call { callee := .builtin .append, args := #[s, x], argTypes := #[S, S] })
    (base : Nat) (v : Value) (xs : List Value) (hs : a.eval s = v) (hown : Ow w T base v xs) (ad : Option Addr) (m c : Nat) (vs : List Value) (hx : a.eval x = .slice ad m c) (hb : Sl w ad m c vs)
    (hbytes : xs.length + m ≤ 1000000) (hbase : base ≤ w.heap.size)
    (h : ∀ v' w', Ow w' T base v' (xs ++ vs) → w.grownBy w' v.ownBlock → Lies w v v' → K (a.put o.dst v') w') : if Region.wanted o (yielded ops a.tmps) = true then Oper.wp Try.prog o a w K Q else E := by
  have hw : Region.wanted o (yielded ops a.tmps) = true := by simp [Region.wanted, hgd]
  rw [if_pos hw]
  obtain ⟨v', w', hr, h2, h3, h4⟩ := run_append_sl S T z by0 hu hinf hz hby o.type base v xs hown ad m c vs hb hbytes hbase
  unfold Oper.wp execOp
  simp only [ho, resolve, invoke, builtin, Sem.run_bind, Sem.run_pure, Result.andThen_ok, List.map_toArray, List.map_cons, List.map_nil, hs, hx, hr]
  exact h v' w' h2 h3 h4

/-- Bytes so. -/
theorem By.sl {w : World} {a : Option Addr} {n cap : Nat} {bs : List Int} (h : By w a n cap bs) : Sl w a n cap (bs.map (Value.int .u8)) := by
  obtain ⟨b, o, h1, h2⟩ := h.cell
  have hl := h.len
  refine ⟨by simp [h.len], h.fits, h.max, h.nil, ⟨b, o, h1, fun i u hi => ?_⟩, bytes_one bs⟩
  have := lt_of_some hi
  rw [List.length_map] at this
  rw [h2 i (by omega), ← hi]
  simp [List.getD, this]
theorem wpList_append_ba (hgd : o.guard = none) (s x : Operand) (ho : o.op = .call { callee := .builtin .append, args := #[s, x], argTypes := #[31, 31] })
    (base : Nat) (v : Value) (xs : List Int) (hs : a.eval s = v) (hown : Own w base v xs) (ad : Option Addr) (m c : Nat) (bs : List Int) (hx : a.eval x = .slice ad m c) (hb : By w ad m c bs)
    (hbytes : xs.length + m ≤ 1000000) (hbase : base ≤ w.heap.size)
    (h : ∀ v' w', Own w' base v' (xs ++ bs) → w.grownBy w' v.ownBlock → Lies w v v' → wpList Try.prog ops Q rest (a.put o.dst v') w') : wpList Try.prog ops Q (o :: rest) a w := by
  refine wpList_append_sa 31 5 (.int .u8 0) 1 Try.underlying31 byteInfo rfl (by decide) hgd s x ho base v (xs.map (Value.int .u8)) hs ⟨by rw [List.length_map]; exact hown.row, bytes_one xs⟩ ad m c (bs.map (Value.int .u8)) hx hb.sl (by rw [List.length_map]; exact hbytes) hbase ?_
  intro v' w' h1 h2 h3
  refine h v' w' ⟨?_, hown.ok.app hb.ok⟩ h2 h3
  have := h1.row
  rw [← List.map_append, List.length_map] at this
  exact this
end

/-- What two rows apart make of an append to one. -/
theorem Ow.apart {w w' : World} {T : TypeId} {base : Nat} {v u : Value} {vs : List Value} (h : Ow w T base v vs) (hg : w.grownBy w' u.ownBlock) (hne : ∀ g, v.ownBlock = some g → u.ownBlock ≠ some g) : Ow w' T base v vs :=
  h.grown hg fun g hv e => hne g hv e.symm
theorem Ow.lt {w : World} {T : TypeId} {base : Nat} {v : Value} {vs : List Value} (h : Ow w T base v vs) : ∀ g, v.ownBlock = some g → base ≤ g ∧ g < w.heap.size := fun g hg => h.row.lt g hg
theorem Own.lt {w : World} {base : Nat} {v : Value} {vs : List Int} (h : Own w base v vs) : ∀ g, v.ownBlock = some g → base ≤ g ∧ g < w.heap.size := fun g hg => h.row.lt g hg
/-- Apart they stay, as one grows. -/
theorem Lies.ne {w : World} {v v' : Value} (h : Lies w v v') {g : Nat} (hlt : g < w.heap.size) (hne : v.ownBlock ≠ some g) : v'.ownBlock ≠ some g := by
  rcases h with h | h
  · rw [h]; exact hne
  · rw [h]; intro e; injection e with e; omega

theorem goInt_is (n : Nat) (h : n ≤ 100000) : goInt n = .int .i64 (n : Nat) := by
  unfold goInt
  first | rfl | (congr 1; rw [IntKind.wrap_i64]; omega)
theorem zcells (T : TypeId) (z : Value) (n : Nat) : madeCells #[z] n = (List.replicate n z).toArray := by
  apply Array.toList_inj.1
  rw [toList_madeCells_one]
/-- make([]string, n). -/
theorem make_str (w : World) (n : Nat) (h : n ≤ 100000) : (Instr.makeSlice 52 (.int .i64 (n : Nat)) (.int .i64 (n : Nat))).run Try.prog w = .ok (.slice (some ⟨w.heap.size, 0, none⟩) n n) (w.alloc (.cells (List.replicate n (Value.string ByteArray.empty)).toArray 9)) := by
  rw [run_make_row' 52 9 (.string ByteArray.empty) 16 Try.underlying52 strInfo rfl .i64 .i64 n (by omega) (by omega) w, zcells 9]
/-- As many texts laid over them. -/
theorem copy_str (w : World) (ty : TypeId) (a : Option Addr) (n c : Nat) (vs : List Value) (hy : Sl w a n c vs) (hn : n ≤ 100000) :
    (Builtin.copy_ #[52, 52] ty #[.slice (some ⟨w.heap.size, 0, none⟩) n n, .slice a n c]).run Try.prog (w.alloc (.cells (List.replicate n (Value.string ByteArray.empty)).toArray 9)) = .ok (.int .i64 (n : Nat)) (w.alloc (.cells vs.toArray 9)) := by
  have hl := hy.len
  rcases Nat.eq_zero_or_pos n with rfl | mp
  · obtain rfl : vs = [] := List.length_eq_zero_iff.1 hl
    rw [run_copy_none (P := Try.prog) _ 52 52 ty 9 _ _ 0 0 0 c Try.underlying52 strSz rfl]
    exact congrArg (fun v => Result.ok v (w.alloc (.cells (List.replicate 0 (Value.string ByteArray.empty)).toArray 9))) (goInt_is 0 (by decide))
  · obtain ⟨b, o, rfl, h2⟩ := hy.at mp
    have hlt : b < w.heap.size := hy.old mp _ rfl
    rw [run_copy_row Try.prog _ 52 52 ty 9 w.heap.size 0 n n ⟨b, o, none⟩ n c (List.replicate n (Value.string ByteArray.empty)).toArray 9 vs Try.underlying52 strSz (heap_alloc_new w _) (by rw [hl]; show n = min n n; omega) ?_ (by simp [hl]) hy.one]
    · rw [World.setRow_alloc_new, hl, goInt_is n hn]
      have e1 : (List.replicate n (Value.string ByteArray.empty)).toArray.toList.take 0 ++ vs ++ (List.replicate n (Value.string ByteArray.empty)).toArray.toList.drop (0 + n) = vs := by simp
      rw [e1]
    · intro j v hv
      have hp : (⟨b, o, none⟩ : Addr).add j = ⟨b, o + j, none⟩ := Addr.add_mid b o j
      rw [hp, World.cell?_alloc_lt _ _ _ hlt]
      exact h2 j v hv
/-- A whole new block is owned. -/
theorem ow_new (w : World) (T : TypeId) (vs : List Value) (h1 : ∀ u ∈ vs, u.oneCell' = true) (hm : vs.length ≤ 100000) : Ow (w.alloc (.cells vs.toArray T)) T w.heap.size (.slice (some ⟨w.heap.size, 0, none⟩) vs.length vs.length) vs :=
  ⟨⟨by simp, .inr ⟨w.heap.size, vs.length, vs.toArray, rfl, Nat.le_refl _, heap_alloc_new w _, Nat.le_refl _, by unfold maxLen; omega, by simp, by simp⟩⟩, h1⟩

end Go.Proofs.Ythdjghmipepppaa

namespace Go.Proofs.Ythdjghmipepppaa
open Go.RowKit
set_option linter.unusedVariables false
set_option linter.unusedSimpArgs false

/-- n items of a page read off bytes. -/
def rdI (lf : Bool) : Nat → List Int → Option (List ByteArray × List ByteArray × List Int)
  | 0, bs => some ([], [], bs)
  | n + 1, bs => if tB bs then none else
    if lf then (if tB (tR bs) then none else (rdI lf n (tR (tR bs))).map fun x => (strOfNums (tU bs) :: x.1, strOfNums (tU (tR bs)) :: x.2.1, x.2.2))
    else (rdI lf n (tR bs)).map fun x => (strOfNums (tU bs) :: x.1, x.2.1, x.2.2)
def rdN : Nat → List Int → Option (List Nat × List Int)
  | 0, bs => some ([], bs)
  | n + 1, bs => if rB bs then none else (rdN n (rR bs)).map fun x => (rU bs :: x.1, x.2)
def fin (p : Pg) (b : List Int) : Option Pg := if b.length = 0 ∧ goodB p = true then some p else none
/-- What behind the first byte is read. -/
def rdH (lf : Bool) (r : List Int) : Option (List ByteArray × List ByteArray × List Int) := if rB r then none else rdI lf (rU r) (rR r)
def dcdB (lf : Bool) (r : List Int) : Option Pg := match rdH lf r with
  | none => none
  | some x => if lf then fin ⟨true, x.1, x.2.1, []⟩ x.2.2 else match rdN (x.1.length + 1) x.2.2 with
    | none => none
    | some y => fin ⟨false, x.1, x.2.1, y.1⟩ y.2
/-- Bytes read as a page. -/
def dcd : List Int → Option Pg
  | [] => none
  | c :: r => if c = 76 then dcdB true r else if c = 66 then dcdB false r else none

theorem rR_lt {l : List Int} (hb : Bys l) (h : rB l = false) : (rR l).length + 1 ≤ l.length := by
  cases e : dec 0 0 l with
  | none => rw [(rU_none e).2.2] at h; cases h
  | some x =>
    have k := dec_ok l 0 0 x.1 x.2 hb (by decide) e
    rw [(rU_some (u := x.1) (n := x.2) e).2.1, List.length_drop]
    omega
theorem rB_nil {l : List Int} (h : rB l = true) : rU l = 0 ∧ rR l = [] := by
  cases e : dec 0 0 l with
  | none => exact ⟨(rU_none e).1, (rU_none e).2.1⟩
  | some x => rw [(rU_some (u := x.1) (n := x.2) e).2.2] at h; cases h
theorem tB_parts {l : List Int} (h : tB l = false) : rB l = false ∧ ¬ (rR l).length < rU l := by
  unfold tB at h
  simp only [Bool.or_eq_false_iff, decide_eq_false_iff_not] at h
  exact h
theorem tR_lt {l : List Int} (hb : Bys l) (h : tB l = false) : (tU l).length + (tR l).length + 1 ≤ l.length := by
  obtain ⟨h1, h2⟩ := tB_parts h
  have t := tU_yes h2
  rw [t.1, t.2.1, List.length_take, List.length_drop]
  have := rR_lt hb h1
  omega
theorem tB_nil {l : List Int} (h : tB l = true) : tU l = [] ∧ tR l = [] := by
  by_cases c : (rR l).length < rU l
  · exact ⟨(tU_no c).1, (tU_no c).2.1⟩
  · have t := tU_yes c
    rw [t.2.2] at h
    have := rB_nil h
    rw [t.1, t.2.1, this.1, this.2]
    exact ⟨rfl, rfl⟩
theorem tR_bys {l : List Int} (h : Bys l) : Bys (tR l) := by
  by_cases c : (rR l).length < rU l
  · rw [(tU_no c).2.1]; exact Bys.nil
  · rw [(tU_yes c).2.1]; exact (rR_bys h).drop _
theorem tU_bys {l : List Int} (h : Bys l) : Bys (tU l) := by
  by_cases c : (rR l).length < rU l
  · rw [(tU_no c).1]; exact Bys.nil
  · rw [(tU_yes c).1]; exact (rR_bys h).take _
theorem str_size (l : List Int) : (strOfNums l).size = l.length := by
  unfold strOfNums
  simp [ByteArray.size]

/-- What is known while items are read: those that were, and what is left. -/
structure RI (T : Option (List ByteArray × List ByteArray × List Int)) (lf : Bool) (L n : Nat) (bad : Bool) (bs : List Int) (ks vs : List ByteArray) : Prop where
  no : bad = true → T = none ∧ bs = []
  yes : bad = false → T = (rdI lf n bs).map fun x => (ks ++ x.1, vs ++ x.2.1, x.2.2)
  len : ks.length + tot ks + tot vs + bs.length ≤ L + (if bad then 1 else 0)
  even : lf = true → vs.length = ks.length
  odd : lf = false → vs = []
  bys : Bys bs
theorem RI.start (lf : Bool) {r : List Int} (hb : Bys r) : RI (rdH lf r) lf r.length (rU r) (rB r) (rR r) [] [] := by
  refine ⟨fun h => ?_, fun h => ?_, ?_, fun _ => rfl, fun _ => rfl, rR_bys hb⟩
  · unfold rdH; rw [h]; exact ⟨rfl, (rB_nil h).2⟩
  · unfold rdH; rw [h]; simp
  · have := rR_len r; simp [tot]; omega
theorem map_map {α β γ : Type} (o : Option α) (f : α → β) (g : β → γ) : (o.map f).map g = o.map (fun x => g (f x)) := by cases o <;> rfl
theorem RI.leaf {T : Option (List ByteArray × List ByteArray × List Int)} {L n : Nat} {bs : List Int} {ks vs : List ByteArray} (h : RI T true L (n + 1) false bs ks vs) :
    RI T true L n (false || tB bs || tB (tR bs)) (tR (tR bs)) (ks ++ [strOfNums (tU bs)]) (vs ++ [strOfNums (tU (tR bs))]) := by
  have hy := h.yes rfl
  have hl := h.len
  have hev := h.even rfl
  simp only [Bool.false_eq_true, if_false] at hl
  rw [Bool.false_or]
  refine ⟨fun hb => ?_, fun hb => ?_, ?_, fun _ => by simp [hev], fun e => (by cases e), tR_bys (tR_bys h.bys)⟩
  · rw [hy]
    cases c1 : tB bs with
    | true =>
      refine ⟨by simp [rdI, c1], ?_⟩
      rw [(tB_nil c1).2]
      rfl
    | false =>
      rw [c1, Bool.false_or] at hb
      exact ⟨by simp [rdI, c1, hb], (tB_nil hb).2⟩
  · simp only [Bool.or_eq_false_iff] at hb
    rw [hy]
    simp only [rdI, hb.1, hb.2, Bool.false_eq_true, if_false, if_true, map_map]
    simp
  · simp only [List.length_append, tot_app, tot, str_size, List.length_cons, List.length_nil]
    cases c1 : tB bs with
    | true =>
      rw [(tB_nil c1).1, (tB_nil c1).2]
      have e1 : tU ([] : List Int) = [] := rfl
      have e2 : tR ([] : List Int) = [] := rfl
      rw [e1, e2]
      simp
      omega
    | false =>
      have k1 := tR_lt h.bys c1
      cases c2 : tB (tR bs) with
      | true =>
        rw [(tB_nil c2).1, (tB_nil c2).2]
        simp
        omega
      | false =>
        have k2 := tR_lt (tR_bys h.bys) c2
        simp
        omega
theorem RI.branch {T : Option (List ByteArray × List ByteArray × List Int)} {L n : Nat} {bs : List Int} {ks vs : List ByteArray} (h : RI T false L (n + 1) false bs ks vs) :
    RI T false L n (false || tB bs) (tR bs) (ks ++ [strOfNums (tU bs)]) vs := by
  have hy := h.yes rfl
  have hl := h.len
  simp only [Bool.false_eq_true, if_false] at hl
  rw [Bool.false_or]
  refine ⟨fun hb => ?_, fun hb => ?_, ?_, fun e => (by cases e), h.odd, tR_bys h.bys⟩
  · rw [hy]
    exact ⟨by simp [rdI, hb], (tB_nil hb).2⟩
  · rw [hy]
    simp only [rdI, hb, Bool.false_eq_true, if_false, map_map]
    simp
  · simp only [List.length_append, tot_app, tot, str_size, List.length_cons, List.length_nil]
    cases c1 : tB bs with
    | true =>
      rw [(tB_nil c1).1, (tB_nil c1).2]
      simp
      omega
    | false =>
      have k1 := tR_lt h.bys c1
      simp
      omega
/-- It is bad, and stays so. -/
theorem RI.on {T : Option (List ByteArray × List ByteArray × List Int)} {lf : Bool} {L n m : Nat} {bs : List Int} {ks vs : List ByteArray} (h : RI T lf L n true bs ks vs) : RI T lf L m true bs ks vs :=
  ⟨h.no, fun e => (by cases e), h.len, h.even, h.odd, h.bys⟩
theorem RI.done {T : Option (List ByteArray × List ByteArray × List Int)} {lf : Bool} {L : Nat} {bs : List Int} {ks vs : List ByteArray} (h : RI T lf L 0 false bs ks vs) : T = some (ks, vs, bs) := by
  rw [h.yes rfl]; simp [rdI]
/-- The kids likewise. -/
structure RN (T : Option (List Nat × List Int)) (m : Nat) (bad : Bool) (bs : List Int) (is : List Nat) : Prop where
  no : bad = true → T = none
  yes : bad = false → T = (rdN m bs).map fun x => (is ++ x.1, x.2)
  kid : ∀ k ∈ is, k < 18446744073709551616
  bys : Bys bs
theorem RN.next {T : Option (List Nat × List Int)} {m : Nat} {bad : Bool} {bs : List Int} {is : List Nat} (h : RN T (m + 1) bad bs is) : RN T m (bad || rB bs) (rR bs) (is ++ [rU bs]) := by
  refine ⟨fun hb => ?_, fun hb => ?_, fun k hk => ?_, rR_bys h.bys⟩
  · cases bad with
    | true => exact h.no rfl
    | false =>
      rw [Bool.false_or] at hb
      rw [h.yes rfl]
      simp [rdN, hb]
  · simp only [Bool.or_eq_false_iff] at hb
    rw [h.yes hb.1]
    simp only [rdN, hb.2, Bool.false_eq_true, if_false, map_map]
    simp
  · rcases List.mem_append.1 hk with q | q
    · exact h.kid k q
    · simp at q; subst q; exact rU_lt h.bys
theorem RN.done {T : Option (List Nat × List Int)} {bs : List Int} {is : List Nat} (h : RN T 0 false bs is) : T = some (is, bs) := by
  rw [h.yes rfl]; simp [rdN]
/-- No more items than bytes. -/
theorem rdI_len (lf : Bool) : ∀ (n : Nat) (bs : List Int), Bys bs → bs.length < n → rdI lf n bs = none
  | 0, bs, _, h => by omega
  | n + 1, bs, hb, h => by
    unfold rdI
    cases c1 : tB bs with
    | true => simp
    | false =>
      have k1 := tR_lt hb c1
      cases lf with
      | true =>
        cases c2 : tB (tR bs) with
        | true => simp
        | false =>
          have k2 := tR_lt (tR_bys hb) c2
          simp [rdI_len true n (tR (tR bs)) (tR_bys (tR_bys hb)) (by omega)]
      | false => simp [rdI_len false n (tR bs) (tR_bys hb) (by omega)]
theorem rdH_len (lf : Bool) {r : List Int} (hb : Bys r) (h : r.length < rU r) : rdH lf r = none := by
  unfold rdH
  cases c : rB r with
  | true => rfl
  | false =>
    rw [if_neg (by decide)]
    exact rdI_len lf _ _ (rR_bys hb) (by have := rR_len r; omega)
theorem dcdB_none {lf : Bool} {r : List Int} (h : rdH lf r = none) : dcdB lf r = none := by unfold dcdB; rw [h]
theorem dcdB_leaf {r : List Int} {ks vs : List ByteArray} {b : List Int} (h : rdH true r = some (ks, vs, b)) : dcdB true r = fin ⟨true, ks, vs, []⟩ b := by unfold dcdB; rw [h]; simp
theorem dcdB_branch_no {r : List Int} {ks vs : List ByteArray} {b : List Int} (h : rdH false r = some (ks, vs, b)) (k : rdN (ks.length + 1) b = none) : dcdB false r = none := by unfold dcdB; rw [h]; simp [k]
theorem dcdB_branch {r : List Int} {ks vs : List ByteArray} {b b' : List Int} {is : List Nat} (h : rdH false r = some (ks, vs, b)) (k : rdN (ks.length + 1) b = some (is, b')) : dcdB false r = fin ⟨false, ks, vs, is⟩ b' := by unfold dcdB; rw [h]; simp [k]
theorem fin_yes {p : Pg} {b : List Int} (h : b.length = 0) (g : goodB p = true) : fin p b = some p := by unfold fin; rw [if_pos ⟨h, g⟩]
theorem fin_no1 {p : Pg} {b : List Int} (h : 0 < b.length) : fin p b = none := by unfold fin; rw [if_neg (by omega)]
theorem fin_no2 {p : Pg} {b : List Int} (h : goodB p = false) : fin p b = none := by unfold fin; rw [if_neg (by rw [h]; simp)]
theorem dcd_no {c : Int} {r : List Int} (h1 : c ≠ 76) (h2 : c ≠ 66) : dcd (c :: r) = none := by simp only [dcd]; rw [if_neg h1, if_neg h2]
theorem dcd_76 {r : List Int} : dcd (76 :: r) = dcdB true r := by simp [dcd]
theorem dcd_66 {r : List Int} : dcd (66 :: r) = dcdB false r := by simp [dcd]

/-- What is read off as a number is written so. -/
theorem dec_back : ∀ (l : List Int) (i acc u n : Nat), Bys l → dec i acc l = some (u, n) → ∃ x : Nat, u = acc + x * 128 ^ i ∧ i + (enc x).length = n ∧ l = enc x ++ l.drop (n - i) ∧ (0 < i → 0 < x) := by
  intro l
  induction l with
  | nil => intro i acc u n _ h; simp [dec] at h
  | cons c r ih =>
    intro i acc u n hb h
    have hc := hb.cons.1
    by_cases h9 : 9 < i
    · rw [dec_far h9] at h; cases h
    · by_cases k : 128 ≤ c
      · rw [dec_more (by omega) k] at h
        obtain ⟨x, e1, e2, e3, e4⟩ := ih (i + 1) _ u n hb.cons.2 h
        have xp := e4 (by omega)
        have E : enc (x * 128 + (c.toNat - 128)) = c :: enc x := by
          rw [enc_ge (by omega)]
          have q1 : (x * 128 + (c.toNat - 128)) % 128 = c.toNat - 128 := by omega
          have q2 : (x * 128 + (c.toNat - 128)) / 128 = x := by omega
          rw [q1, q2]
          have q3 : ((c.toNat - 128 + 128 : Nat) : Int) = c := by omega
          rw [q3]
        have n1 : n - i = (n - (i + 1)) + 1 := by have := enc_pos x; omega
        refine ⟨x * 128 + (c.toNat - 128), ?_, ?_, ?_, fun _ => by omega⟩
        · rw [e1, Nat.pow_succ, Nat.add_mul, Nat.mul_assoc, Nat.mul_comm 128 (128 ^ i)]
          omega
        · rw [E, List.length_cons]; omega
        · rw [E, n1, List.drop_succ_cons]
          show c :: r = c :: (enc x ++ _)
          rw [← e3]
      · by_cases b : (0 < i ∧ c = 0) ∨ (i = 9 ∧ 1 < c)
        · rw [dec_bad (by omega) b] at h; cases h
        · rw [dec_last (by omega) (by omega) b] at h
          cases h
          have E : enc c.toNat = [c] := by
            rw [enc_lt (by omega)]
            have q3 : ((c.toNat : Nat) : Int) = c := by omega
            rw [q3]
          refine ⟨c.toNat, rfl, by rw [E]; rfl, ?_, fun h0 => by omega⟩
          rw [E]
          have : i + 1 - i = 1 := by omega
          rw [this]
          rfl
theorem enc_rU {l : List Int} (hb : Bys l) (h : rB l = false) : enc (rU l) ++ rR l = l := by
  cases e : dec 0 0 l with
  | none => rw [(rU_none e).2.2] at h; cases h
  | some x =>
    have r := rU_some (u := x.1) (n := x.2) e
    obtain ⟨y, e1, e2, e3, _⟩ := dec_back l 0 0 x.1 x.2 hb e
    rw [r.1, r.2.1]
    have : x.1 = y := by simpa using e1
    rw [this]
    exact e3.symm
theorem encS_tU {l : List Int} (hb : Bys l) (h : tB l = false) : encS (strOfNums (tU l)) ++ tR l = l := by
  obtain ⟨h1, h2⟩ := tB_parts h
  have t := tU_yes h2
  have e := enc_rU hb h1
  unfold encS
  rw [str_size, str_nums (tU_bys hb), t.1, t.2.1, List.length_take]
  have : min (rU l) (rR l).length = rU l := by omega
  rw [this, List.append_assoc, List.take_append_drop]
  exact e
theorem encI_rdI : ∀ (n : Nat) (bs : List Int) (x : List ByteArray × List ByteArray × List Int), Bys bs → rdI true n bs = some x → encI x.1 x.2.1 ++ x.2.2 = bs ∧ x.1.length = n ∧ x.2.1.length = n
  | 0, bs, x, _, h => by simp [rdI] at h; subst h; simp [encI]
  | n + 1, bs, x, hb, h => by
    unfold rdI at h
    cases c1 : tB bs with
    | true => simp [c1] at h
    | false =>
      cases c2 : tB (tR bs) with
      | true => simp [c1, c2] at h
      | false =>
        simp only [c1, c2, Bool.false_eq_true, if_false, if_true] at h
        cases e : rdI true n (tR (tR bs)) with
        | none => rw [e] at h; cases h
        | some y =>
          rw [e] at h
          simp at h
          subst h
          obtain ⟨q1, q2, q3⟩ := encI_rdI n _ y (tR_bys (tR_bys hb)) e
          refine ⟨?_, by simp [q2], by simp [q3]⟩
          simp only [encI, List.append_assoc]
          rw [q1, encS_tU (tR_bys hb) c2, encS_tU hb c1]
theorem encK_rdI : ∀ (n : Nat) (bs : List Int) (x : List ByteArray × List ByteArray × List Int), Bys bs → rdI false n bs = some x → encK x.1 ++ x.2.2 = bs ∧ x.1.length = n ∧ x.2.1 = [] ∧ Bys x.2.2
  | 0, bs, x, hb, h => by simp [rdI] at h; subst h; simp [encK, hb]
  | n + 1, bs, x, hb, h => by
    unfold rdI at h
    cases c1 : tB bs with
    | true => simp [c1] at h
    | false =>
      simp only [c1, Bool.false_eq_true, if_false] at h
      cases e : rdI false n (tR bs) with
      | none => rw [e] at h; cases h
      | some y =>
        rw [e] at h
        simp at h
        subst h
        obtain ⟨q1, q2, q3, q4⟩ := encK_rdI n _ y (tR_bys hb) e
        refine ⟨?_, by simp [q2], q3, q4⟩
        simp only [encK, List.append_assoc]
        rw [q1, encS_tU hb c1]
theorem encN_rdN : ∀ (n : Nat) (bs : List Int) (x : List Nat × List Int), Bys bs → rdN n bs = some x → encN x.1 ++ x.2 = bs ∧ x.1.length = n ∧ ∀ k ∈ x.1, k < 18446744073709551616
  | 0, bs, x, _, h => by simp [rdN] at h; subst h; simp [encN]
  | n + 1, bs, x, hb, h => by
    unfold rdN at h
    cases c1 : rB bs with
    | true => simp [c1] at h
    | false =>
      simp only [c1, Bool.false_eq_true, if_false] at h
      cases e : rdN n (rR bs) with
      | none => rw [e] at h; cases h
      | some y =>
        rw [e] at h
        simp at h
        subst h
        obtain ⟨q1, q2, q3⟩ := encN_rdN n _ y (rR_bys hb) e
        refine ⟨?_, by simp [q2], fun k hk => ?_⟩
        · simp only [encN, List.append_assoc]
          rw [q1, enc_rU hb c1]
        · simp at hk
          rcases hk with rfl | hk
          · exact rU_lt hb
          · exact q3 k hk
theorem fin_some {p q : Pg} {b : List Int} (h : fin p b = some q) : q = p ∧ b = [] ∧ goodB p = true := by
  unfold fin at h
  by_cases c : b.length = 0 ∧ goodB p = true
  · rw [if_pos c] at h
    injection h with h
    exact ⟨h.symm, List.length_eq_zero_iff.1 c.1, c.2⟩
  · rw [if_neg c] at h; cases h
/-- What is read as a page is just that page's bytes. -/
theorem encP_dcd {bs : List Int} {p : Pg} (hb : Bys bs) (h : dcd bs = some p) : encP p = bs ∧ goodB p = true ∧ ∀ k ∈ p.kids, k < 18446744073709551616 := by
  cases bs with
  | nil => simp [dcd] at h
  | cons c r =>
    have hr := hb.cons.2
    by_cases c1 : c = 76
    · subst c1
      rw [dcd_76] at h
      unfold dcdB at h
      cases e : rdH true r with
      | none => rw [e] at h; cases h
      | some x =>
        rw [e] at h
        simp only [if_true] at h
        obtain ⟨rfl, q1, q2⟩ := fin_some h
        unfold rdH at e
        cases c2 : rB r with
        | true => rw [c2] at e; cases e
        | false =>
          rw [c2, if_neg (by decide)] at e
          obtain ⟨i1, i2, i3⟩ := encI_rdI _ _ x (rR_bys hr) e
          refine ⟨?_, q2, fun k hk => by simp at hk⟩
          rw [encP_leaf rfl]
          simp only
          rw [i2]
          rw [q1, List.append_nil] at i1
          rw [i1]
          unfold encH mark
          simp [enc_rU hr c2]
    · by_cases c3 : c = 66
      · subst c3
        rw [dcd_66] at h
        unfold dcdB at h
        cases e : rdH false r with
        | none => rw [e] at h; cases h
        | some x =>
          rw [e] at h
          simp only [Bool.false_eq_true, if_false] at h
          unfold rdH at e
          cases c2 : rB r with
          | true => rw [c2] at e; cases e
          | false =>
            rw [c2, if_neg (by decide)] at e
            obtain ⟨i1, i2, i3, i4⟩ := encK_rdI _ _ x (rR_bys hr) e
            cases e2 : rdN (x.1.length + 1) x.2.2 with
            | none => rw [e2] at h; cases h
            | some y =>
              rw [e2] at h
              obtain ⟨rfl, q1, q2⟩ := fin_some h
              obtain ⟨j1, j2, j3⟩ := encN_rdN _ _ y i4 e2
              refine ⟨?_, q2, j3⟩
              rw [encP_branch rfl]
              simp only
              rw [i2]
              rw [q1, List.append_nil] at j1
              rw [j1, i1]
              unfold encH mark
              simp [enc_rU hr c2]
      · rw [dcd_no c1 c3] at h; cases h
/-- And back. -/
theorem tU_encS {s : ByteArray} (h : s.size < 18446744073709551616) (r : List Int) : tU (encS s ++ r) = nums s ∧ tR (encS s ++ r) = r ∧ tB (encS s ++ r) = false := by
  have := tU_enc (s := nums s) (by rw [nums_len]; exact h) r
  rw [nums_len] at this
  exact this
theorem rdI_encI : ∀ (ks vs : List ByteArray) (r : List Int), vs.length = ks.length → (∀ s ∈ ks, s.size < 18446744073709551616) → (∀ s ∈ vs, s.size < 18446744073709551616) → rdI true ks.length (encI ks vs ++ r) = some (ks, vs, r)
  | [], [], r, _, _, _ => rfl
  | [], _ :: _, _, h, _, _ => by simp at h
  | _ :: _, [], _, h, _, _ => by simp at h
  | k :: ks, v :: vs, r, h, h1, h2 => by
    have a := tU_encS (h1 k (by simp)) (encS v ++ (encI ks vs ++ r))
    have b := tU_encS (h2 v (by simp)) (encI ks vs ++ r)
    have ih := rdI_encI ks vs r (by simpa using h) (fun s hs => h1 s (by simp [hs])) (fun s hs => h2 s (by simp [hs]))
    simp only [List.length_cons, encI, List.append_assoc, rdI]
    rw [a.1, a.2.1, a.2.2, b.1, b.2.1, b.2.2, ih]
    simp [nums_str]
theorem rdI_encK : ∀ (ks : List ByteArray) (r : List Int), (∀ s ∈ ks, s.size < 18446744073709551616) → rdI false ks.length (encK ks ++ r) = some (ks, [], r)
  | [], r, _ => rfl
  | k :: ks, r, h1 => by
    have a := tU_encS (h1 k (by simp)) (encK ks ++ r)
    have ih := rdI_encK ks r (fun s hs => h1 s (by simp [hs]))
    simp only [List.length_cons, encK, List.append_assoc, rdI]
    rw [a.1, a.2.1, a.2.2, ih]
    simp [nums_str]
theorem rdN_encN : ∀ (ks : List Nat) (r : List Int), (∀ k ∈ ks, k < 18446744073709551616) → rdN ks.length (encN ks ++ r) = some (ks, r)
  | [], r, _ => rfl
  | k :: ks, r, h1 => by
    have a := rU_enc (h1 k (by simp)) (encN ks ++ r)
    have ih := rdN_encN ks r (fun s hs => h1 s (by simp [hs]))
    simp only [List.length_cons, encN, List.append_assoc, rdN]
    rw [a.1, a.2.1, a.2.2, ih]
    simp
theorem dcd_encP {p : Pg} (g : goodB p = true) (f : Fit p) : dcd (encP p) = some p := by
  have s1 : ∀ s ∈ p.keys, s.size < 18446744073709551616 := fun s hs => by
    obtain ⟨i, hi, rfl⟩ := List.mem_iff_getElem.1 hs
    have := kAt_le (ss := p.keys) i
    rw [kAt_get hi] at this
    have := f.tk
    omega
  have s2 : ∀ s ∈ p.vals, s.size < 18446744073709551616 := fun s hs => by
    obtain ⟨i, hi, rfl⟩ := List.mem_iff_getElem.1 hs
    have := kAt_le (ss := p.vals) i
    rw [kAt_get hi] at this
    have := f.tv
    omega
  have n1 : p.keys.length < 18446744073709551616 := by have := f.keys; omega
  obtain ⟨lf, ks, vs, is⟩ := p
  cases lf with
  | true =>
    rw [encP_leaf rfl]
    have e := goodB_leaf g rfl
    simp only at e s1 s2 n1 ⊢
    obtain ⟨e1, rfl⟩ := e
    unfold encH mark
    rw [if_pos rfl, List.cons_append, dcd_76]
    have a := rU_enc n1 (encI ks vs)
    have H : rdH true (enc ks.length ++ encI ks vs) = some (ks, vs, []) := by
      unfold rdH
      rw [a.1, a.2.1, a.2.2]
      have := rdI_encI ks vs [] e1 s1 s2
      rw [List.append_nil] at this
      simpa using this
    rw [dcdB_leaf H]
    exact fin_yes rfl g
  | false =>
    rw [encP_branch rfl]
    have e := goodB_branch g rfl
    have kk := f.kid
    simp only at e s1 n1 kk ⊢
    obtain ⟨rfl, e2⟩ := e
    unfold encH mark
    rw [if_neg (by decide), List.cons_append, dcd_66]
    have a := rU_enc n1 (encK ks ++ encN is)
    have H : rdH false (enc ks.length ++ (encK ks ++ encN is)) = some (ks, [], encN is) := by
      unfold rdH
      rw [a.1, a.2.1, a.2.2]
      have := rdI_encK ks (encN is) s1
      simpa using this
    have N : rdN (ks.length + 1) (encN is) = some (is, []) := by
      have := rdN_encN is [] kk
      rw [List.append_nil] at this
      rw [← e2]; exact this
    rw [dcdB_branch H N]
    exact fin_yes rfl g

end Go.Proofs.Ythdjghmipepppaa

namespace Go.Proofs.Ythdjghmipepppaa
open Go.RowKit
set_option linter.unusedVariables false
set_option linter.unusedSimpArgs false

/-- Keys rise. -/
def Rise (ks : List ByteArray) : Prop := ∀ i j, i < j → j < ks.length → ltS (kAt ks i) (kAt ks j) = true
theorem kOk_lt {ks : List ByteArray} {i : Nat} (h : kOk ks (i + 1) = true) : ltS (kAt ks i) (kAt ks (i + 1)) = true := by
  unfold kOk at h
  simp only [Bool.and_eq_true, Bool.or_eq_true, decide_eq_true_eq] at h
  rcases h.2 with q | q
  · omega
  · exact q
theorem kOk_size {ks : List ByteArray} {i : Nat} (h : kOk ks i = true) : 1 ≤ (kAt ks i).size ∧ (kAt ks i).size ≤ 40 := by
  unfold kOk at h
  simp only [Bool.and_eq_true, decide_eq_true_eq] at h
  exact h.1
theorem keysB_rise {ks : List ByteArray} (h : keysB ks = true) : Rise ks := by
  intro i j hij hj
  induction j with
  | zero => omega
  | succ j ih =>
    have s := kOk_lt (keysB_at h hj)
    rcases Nat.lt_or_ge i j with q | q
    · exact ltS_trans (ih q (by omega)) s
    · obtain rfl : i = j := by omega
      exact s
theorem rise_keysB {ks : List ByteArray} (h : Rise ks) (s : ∀ i, i < ks.length → 1 ≤ (kAt ks i).size ∧ (kAt ks i).size ≤ 40) : keysB ks = true := by
  refine keysB_true (fun j hj => ?_)
  unfold kOk
  rw [decide_eq_true (s j hj).1, decide_eq_true (s j hj).2]
  cases j with
  | zero => rfl
  | succ j =>
    have := h j (j + 1) (by omega) hj
    simp [this]
theorem Rise.take {ks : List ByteArray} (h : Rise ks) (k : Nat) : Rise (ks.take k) := by
  intro i j hij hj
  simp at hj
  have e : ∀ t, t < k → kAt (ks.take k) t = kAt ks t := fun t ht => by simp [kAt, List.getD, ht]
  rw [e i (by omega), e j (by omega)]
  exact h i j hij (by omega)
theorem kAt_drop (ks : List ByteArray) (k t : Nat) : kAt (ks.drop k) t = kAt ks (k + t) := by simp [kAt, List.getD]
theorem kAt_take {ks : List ByteArray} {k t : Nat} (h : t < k) : kAt (ks.take k) t = kAt ks t := by simp [kAt, List.getD, h]
theorem Rise.drop {ks : List ByteArray} (h : Rise ks) (k : Nat) : Rise (ks.drop k) := by
  intro i j hij hj
  simp at hj
  rw [kAt_drop, kAt_drop]
  exact h _ _ (by omega) (by omega)

/-- How many keys at the head are below one. -/
def posS (ks : List ByteArray) (x : ByteArray) : Nat := (ks.takeWhile (fun k => ltS k x)).length
def fnd (ks : List ByteArray) (x : ByteArray) : Bool := decide (posS ks x < ks.length ∧ kAt ks (posS ks x) = x)
theorem kAt_cons (k : ByteArray) (ks : List ByteArray) (i : Nat) : kAt (k :: ks) (i + 1) = kAt ks i := by simp [kAt, List.getD]
theorem kAt_zero (k : ByteArray) (ks : List ByteArray) : kAt (k :: ks) 0 = k := rfl
theorem pos_is : ∀ {ks : List ByteArray} {x : ByteArray} {i : Nat}, i ≤ ks.length → (∀ t, t < i → ltS (kAt ks t) x = true) → (i < ks.length → ltS (kAt ks i) x = false) → posS ks x = i
  | [], x, i, h1, h2, h3 => by simp at h1; subst h1; rfl
  | k :: ks, x, 0, h1, h2, h3 => by
    have := h3 (by simp)
    rw [kAt_zero] at this
    simp [posS, this]
  | k :: ks, x, i + 1, h1, h2, h3 => by
    have h0 := h2 0 (by omega)
    rw [kAt_zero] at h0
    have ih := pos_is (ks := ks) (x := x) (i := i) (by simpa using h1) (fun t ht => by have := h2 (t + 1) (by omega); rwa [kAt_cons] at this) (fun hi => by have := h3 (by simpa using hi); rwa [kAt_cons] at this)
    unfold posS at ih ⊢
    simp [h0, ih]
theorem pos_le : ∀ (ks : List ByteArray) (x : ByteArray), posS ks x ≤ ks.length
  | [], x => Nat.le_refl _
  | k :: ks, x => by
    have := pos_le ks x
    unfold posS at this ⊢
    cases e : ltS k x with
    | true => simp [e]; exact this
    | false => simp [e]
theorem pos_lt : ∀ {ks : List ByteArray} {x : ByteArray} {t : Nat}, t < posS ks x → ltS (kAt ks t) x = true
  | [], x, t, h => by simp [posS] at h
  | k :: ks, x, t, h => by
    cases e : ltS k x with
    | false => simp [posS, e] at h
    | true =>
      cases t with
      | zero => rw [kAt_zero]; exact e
      | succ t =>
        rw [kAt_cons]
        refine pos_lt ?_
        simp [posS, e] at h
        unfold posS
        omega
theorem pos_at : ∀ {ks : List ByteArray} {x : ByteArray}, posS ks x < ks.length → ltS (kAt ks (posS ks x)) x = false
  | [], x, h => by simp [posS] at h
  | k :: ks, x, h => by
    cases e : ltS k x with
    | false =>
      have : posS (k :: ks) x = 0 := by simp [posS, e]
      rw [this, kAt_zero]; exact e
    | true =>
      have q : posS (k :: ks) x = posS ks x + 1 := by simp [posS, e]
      rw [q] at h ⊢
      rw [kAt_cons]
      exact pos_at (by simpa using h)
/-- Behind the place all are above. -/
theorem pos_gt {ks : List ByteArray} (h : Rise ks) {x : ByteArray} {t : Nat} (h1 : posS ks x ≤ t) (h2 : t < ks.length) : ltS (kAt ks t) x = false := by
  have p := pos_at (ks := ks) (x := x) (by omega)
  rcases Nat.lt_or_ge (posS ks x) t with q | q
  · have r := h _ _ q h2
    cases e : ltS (kAt ks t) x with
    | false => rfl
    | true => have := ltS_trans r e; rw [p] at this; cases this
  · obtain rfl : t = posS ks x := by omega
    exact p
theorem fnd_true {ks : List ByteArray} {x : ByteArray} (h : fnd ks x = true) : posS ks x < ks.length ∧ kAt ks (posS ks x) = x := by
  unfold fnd at h; exact of_decide_eq_true h
theorem fnd_false {ks : List ByteArray} {x : ByteArray} (h : fnd ks x = false) : ¬ (posS ks x < ks.length ∧ kAt ks (posS ks x) = x) := by
  unfold fnd at h; exact of_decide_eq_false h
/-- Where it is not, the one at its place is above. -/
theorem pos_above {ks : List ByteArray} {x : ByteArray} (h : fnd ks x = false) (l : posS ks x < ks.length) : ltS x (kAt ks (posS ks x)) = true := by
  cases e : ltS x (kAt ks (posS ks x)) with
  | true => rfl
  | false => exact absurd ⟨l, ltS_total (pos_at l) e⟩ (fnd_false h)

/-- How many keys at the head are at most one. -/
def leS (a b : ByteArray) : Bool := ltS a b || decide (a = b)
def plS (ks : List ByteArray) (x : ByteArray) : Nat := posS ks x + (if fnd ks x then 1 else 0)
theorem plS_le (ks : List ByteArray) (x : ByteArray) : plS ks x ≤ ks.length := by
  unfold plS
  cases h : fnd ks x with
  | true => have := (fnd_true h).1; simp; omega
  | false => have := pos_le ks x; simp; omega
/-- It is where a walk along them ends. -/
theorem plS_is {ks : List ByteArray} (hr : Rise ks) {x : ByteArray} {i : Nat} (h1 : i ≤ ks.length) (h2 : ∀ t, t < i → leS (kAt ks t) x = true) (h3 : i < ks.length → leS (kAt ks i) x = false) : plS ks x = i := by
  have lt_of : ∀ t, t + 1 < i → ltS (kAt ks t) x = true := fun t ht => by
    have a := h2 (t + 1) ht
    have b := hr t (t + 1) (by omega) (by omega)
    unfold leS at a
    simp only [Bool.or_eq_true, decide_eq_true_eq] at a
    rcases a with a | a
    · exact ltS_trans b a
    · rw [← a]; exact b
  have no : i < ks.length → ltS (kAt ks i) x = false := fun hi => by
    have := h3 hi
    unfold leS at this
    simp only [Bool.or_eq_false_iff] at this
    exact this.1
  rcases Nat.eq_zero_or_pos i with q | q
  · subst q
    have p : posS ks x = 0 := pos_is (Nat.zero_le _) (fun t ht => by omega) no
    have f : fnd ks x = false := by
      unfold fnd
      rw [p]
      refine decide_eq_false (fun ⟨a, b⟩ => ?_)
      have := h3 a
      unfold leS at this
      simp [b] at this
    unfold plS
    rw [p, f]; rfl
  · have a := h2 (i - 1) (by omega)
    unfold leS at a
    simp only [Bool.or_eq_true, decide_eq_true_eq] at a
    rcases a with a | a
    · have p : posS ks x = i := pos_is h1 (fun t ht => by
        rcases Nat.lt_or_ge (t + 1) i with r | r
        · exact lt_of t r
        · obtain rfl : t = i - 1 := by omega
          exact a) no
      have f : fnd ks x = false := by
        unfold fnd
        rw [p]
        refine decide_eq_false (fun ⟨a, b⟩ => ?_)
        have := h3 a
        unfold leS at this
        simp [b] at this
      unfold plS
      rw [p, f]; rfl
    · have p : posS ks x = i - 1 := pos_is (by omega) (fun t ht => lt_of t (by omega)) (fun _ => by rw [a]; exact ltS_irrefl x)
      have f : fnd ks x = true := by
        unfold fnd
        rw [p]
        exact decide_eq_true ⟨by omega, a⟩
      unfold plS
      rw [p, f]
      simp
      omega
theorem plS_found {ks : List ByteArray} {x : ByteArray} : decide (0 < plS ks x ∧ kAt ks (plS ks x - 1) = x) = fnd ks x := by
  cases f : fnd ks x with
  | true =>
    have := fnd_true f
    unfold plS
    rw [f]
    simp [this.2]
  | false =>
    refine decide_eq_false (fun ⟨a, b⟩ => ?_)
    unfold plS at a b
    rw [f] at a b
    simp at a b
    have := pos_lt (ks := ks) (x := x) (t := posS ks x - 1) (by omega)
    rw [b, ltS_irrefl] at this
    cases this

/-- One more at a place; one less; another. -/
def insAt {α : Type} (l : List α) (i : Nat) (x : α) : List α := l.take i ++ x :: l.drop i
def delAt {α : Type} (l : List α) (i : Nat) : List α := l.take i ++ l.drop (i + 1)
def setAt {α : Type} (l : List α) (i : Nat) (x : α) : List α := l.take i ++ x :: l.drop (i + 1)
theorem insAt_len {α : Type} {l : List α} {i : Nat} {x : α} (h : i ≤ l.length) : (insAt l i x).length = l.length + 1 := by simp [insAt]; omega
theorem delAt_len {α : Type} {l : List α} {i : Nat} (h : i < l.length) : (delAt l i).length = l.length - 1 := by simp [delAt]; omega
theorem setAt_len {α : Type} {l : List α} {i : Nat} {x : α} (h : i < l.length) : (setAt l i x).length = l.length := by simp [setAt]; omega
theorem tot_ins {ss : List ByteArray} (i : Nat) (x : ByteArray) : tot (insAt ss i x) = tot ss + x.size := by
  unfold insAt
  rw [tot_app]
  simp only [tot]
  have := tot_app (ss.take i) (ss.drop i)
  rw [List.take_append_drop] at this
  omega
theorem tot_del_le {ss : List ByteArray} (i : Nat) : tot (delAt ss i) ≤ tot ss := by
  unfold delAt
  rw [tot_app]
  have := tot_app (ss.take i) (ss.drop i)
  rw [List.take_append_drop] at this
  have k := tot_drop_le (ss.drop i) 1
  rw [List.drop_drop] at k
  omega
theorem tot_set_le {ss : List ByteArray} (i : Nat) (x : ByteArray) : tot (setAt ss i x) ≤ tot ss + x.size := by
  unfold setAt
  rw [tot_app]
  simp only [tot]
  have := tot_app (ss.take i) (ss.drop i)
  rw [List.take_append_drop] at this
  have k := tot_drop_le (ss.drop i) 1
  rw [List.drop_drop] at k
  omega
def putP (p : Pg) (k v : ByteArray) : Pg := if fnd p.keys k then ⟨true, p.keys, setAt p.vals (posS p.keys k) v, []⟩ else ⟨true, insAt p.keys (posS p.keys k) k, insAt p.vals (posS p.keys k) v, []⟩
def dropP (p : Pg) (k : ByteArray) : Pg := if fnd p.keys k then ⟨true, delAt p.keys (posS p.keys k), delAt p.vals (posS p.keys k), []⟩ else p
theorem putP_yes {p : Pg} {k v : ByteArray} (h : fnd p.keys k = true) : putP p k v = ⟨true, p.keys, setAt p.vals (posS p.keys k) v, []⟩ := by unfold putP; rw [h, if_pos rfl]
theorem putP_no {p : Pg} {k v : ByteArray} (h : fnd p.keys k = false) : putP p k v = ⟨true, insAt p.keys (posS p.keys k) k, insAt p.vals (posS p.keys k) v, []⟩ := by unfold putP; rw [h, if_neg (by decide)]
theorem dropP_yes {p : Pg} {k : ByteArray} (h : fnd p.keys k = true) : dropP p k = ⟨true, delAt p.keys (posS p.keys k), delAt p.vals (posS p.keys k), []⟩ := by unfold dropP; rw [h, if_pos rfl]
theorem dropP_no {p : Pg} {k : ByteArray} (h : fnd p.keys k = false) : dropP p k = p := by unfold dropP; rw [h, if_neg (by decide)]

end Go.Proofs.Ythdjghmipepppaa

namespace Go.Proofs.Ythdjghmipepppaa
open Go.RowKit
set_option linter.unusedVariables false
set_option linter.unusedSimpArgs false

def sumL : List Nat → Nat
  | [] => 0
  | x :: l => x + sumL l
theorem sumL_app : ∀ a b : List Nat, sumL (a ++ b) = sumL a + sumL b
  | [], b => by simp [sumL]
  | x :: a, b => by simp only [List.cons_append, sumL, sumL_app a b]; omega
theorem sumL_split (l : List Nat) (k : Nat) : sumL (l.take k) + sumL (l.drop k) = sumL l := by
  rw [← sumL_app, List.take_append_drop]
theorem sumL_snoc {l : List Nat} {k : Nat} (h : k < l.length) : sumL (l.take (k + 1)) = sumL (l.take k) + l.getD k 0 := by
  rw [take_snoc h 0, sumL_app]; simp [sumL]
theorem sumL_at {l : List Nat} (k : Nat) : l.getD k 0 ≤ sumL l := by
  by_cases h : k < l.length
  · have a := sumL_snoc h
    have b := sumL_split l (k + 1)
    omega
  · have : l.getD k 0 = 0 := by simp [List.getD, show l.length ≤ k by omega]
    omega
/-- The sizes of a leaf's items. -/
def szs : List ByteArray → List ByteArray → List Nat
  | k :: ks, v :: vs => (encS k ++ encS v).length :: szs ks vs
  | _, _ => []
theorem szs_len : ∀ ks vs : List ByteArray, vs.length = ks.length → (szs ks vs).length = ks.length
  | [], [], _ => rfl
  | [], _ :: _, h => by simp at h
  | _ :: _, [], h => by simp at h
  | k :: ks, v :: vs, h => by simp [szs, szs_len ks vs (by simpa using h)]
theorem szs_sum : ∀ ks vs : List ByteArray, (encI ks vs).length = sumL (szs ks vs)
  | [], _ => by simp [encI, szs, sumL]
  | _ :: _, [] => by simp [encI, szs, sumL]
  | k :: ks, v :: vs => by
    simp only [encI, szs, sumL, List.length_append, szs_sum ks vs]
theorem szs_take : ∀ (ks vs : List ByteArray) (n : Nat), szs (ks.take n) (vs.take n) = (szs ks vs).take n
  | [], vs, n => by cases n <;> simp [szs]
  | k :: ks, [], n => by cases n <;> simp [szs]
  | k :: ks, v :: vs, 0 => by simp [szs]
  | k :: ks, v :: vs, n + 1 => by simp [szs, szs_take ks vs n]
theorem szs_drop : ∀ (ks vs : List ByteArray) (n : Nat), szs (ks.drop n) (vs.drop n) = (szs ks vs).drop n
  | [], vs, n => by cases n <;> simp [szs]
  | k :: ks, [], n => by cases n <;> simp [szs]
  | k :: ks, v :: vs, 0 => by simp
  | k :: ks, v :: vs, n + 1 => by simp [szs, szs_drop ks vs n]
theorem szs_at : ∀ (ks vs : List ByteArray) (i : Nat), vs.length = ks.length → i < ks.length → (szs ks vs).getD i 0 = (encS (kAt ks i) ++ encS (kAt vs i)).length
  | [], _, i, _, h => by simp at h
  | _ :: _, [], i, h, _ => by simp at h
  | k :: ks, v :: vs, 0, _, _ => by simp [szs, kAt]
  | k :: ks, v :: vs, i + 1, h, hi => by
    have := szs_at ks vs i (by simpa using h) (by simpa using hi)
    rw [kAt_cons, kAt_cons, ← this]
    simp [szs]
def hd (n : Nat) : Nat := (encH true n).length
theorem hd_le {n : Nat} (h : n ≤ 100000) : hd n ≤ 11 := by
  unfold hd encH
  have := enc_len10 (u := n) (by omega)
  rw [List.length_cons]; omega
theorem encP_leaf_len (ks vs : List ByteArray) (is : List Nat) : (encP ⟨true, ks, vs, is⟩).length = hd ks.length + sumL (szs ks vs) := by
  rw [encP_leaf rfl, List.length_append, szs_sum]; rfl
/-- Should a leaf of so many items, so many bytes, give one away? -/
def crB (items bytes : Nat) : Bool := decide (1 < items) && decide (900 < hd items + bytes)
def upT (c : Nat → Bool) : Nat → Nat → Nat
  | 0, a => a
  | f + 1, a => if c a then upT c f (a + 1) else a
def dnT (c : Nat → Bool) : Nat → Nat
  | 0 => 0
  | a + 1 => if c (a + 1) then dnT c a else a + 1
def cS (l : List Nat) (a : Nat) : Bool := crB (l.length - a) (sumL (l.drop a))
def cF (l : List Nat) (a : Nat) : Bool := crB a (sumL (l.take a))
def top (l : List Nat) : Nat := upT (cS l) (l.length - l.length / 2) (l.length / 2)
def mid (l : List Nat) : Nat := dnT (cF l) (top l)
theorem cS_lt {l : List Nat} {a : Nat} (h : cS l a = true) : 1 < l.length - a := by
  unfold cS crB at h
  simp only [Bool.and_eq_true, decide_eq_true_eq] at h
  exact h.1
theorem cF_lt {l : List Nat} {a : Nat} (h : cF l a = true) : 1 < a := by
  unfold cF crB at h
  simp only [Bool.and_eq_true, decide_eq_true_eq] at h
  exact h.1
theorem upT_step {c : Nat → Bool} {n a : Nat} (h : c a = true) (ha : a < n) : upT c (n - a) a = upT c (n - (a + 1)) (a + 1) := by
  rw [show n - a = (n - (a + 1)) + 1 by omega]
  simp [upT, h]
theorem upT_stop {c : Nat → Bool} {f a : Nat} (h : c a = false) : upT c f a = a := by
  cases f with
  | zero => rfl
  | succ f => simp [upT, h]
theorem dnT_step {c : Nat → Bool} {a : Nat} (h : c a = true) (ha : 0 < a) : dnT c a = dnT c (a - 1) := by
  obtain ⟨b, rfl⟩ : ∃ b, a = b + 1 := ⟨a - 1, by omega⟩
  simp [dnT, h]
theorem dnT_stop {c : Nat → Bool} {a : Nat} (h : c a = false) : dnT c a = a := by
  cases a with
  | zero => rfl
  | succ a => simp [dnT, h]
theorem up_bd (l : List Nat) : ∀ (f a : Nat), 1 ≤ a → a < l.length → 1 ≤ upT (cS l) f a ∧ upT (cS l) f a < l.length ∧ a ≤ upT (cS l) f a
  | 0, a, h1, h2 => ⟨h1, h2, Nat.le_refl _⟩
  | f + 1, a, h1, h2 => by
    cases c : cS l a with
    | true =>
      have := cS_lt c
      have ih := up_bd l f (a + 1) (by omega) (by omega)
      simp only [upT, c, if_true]
      exact ⟨ih.1, ih.2.1, by omega⟩
    | false => simp only [upT, c, Bool.false_eq_true, if_false]; exact ⟨h1, h2, Nat.le_refl _⟩
theorem dn_bd (l : List Nat) : ∀ (a : Nat), 1 ≤ a → 1 ≤ dnT (cF l) a ∧ dnT (cF l) a ≤ a
  | 0, h => by omega
  | a + 1, h => by
    cases c : cF l (a + 1) with
    | true =>
      have := cF_lt c
      have ih := dn_bd l a (by omega)
      simp only [dnT, c, if_true]
      exact ⟨ih.1, by omega⟩
    | false => simp only [dnT, c, Bool.false_eq_true, if_false]; exact ⟨h, Nat.le_refl _⟩
theorem top_bd {l : List Nat} (h : 2 ≤ l.length) : 1 ≤ top l ∧ top l < l.length := by
  have := up_bd l (l.length - l.length / 2) (l.length / 2) (by omega) (by omega)
  exact ⟨this.1, this.2.1⟩
theorem mid_bd {l : List Nat} (h : 2 ≤ l.length) : 1 ≤ mid l ∧ mid l < l.length := by
  have a := top_bd h
  have b := dn_bd l (top l) a.1
  exact ⟨b.1, Nat.lt_of_le_of_lt b.2 a.2⟩
/-- Where the walk up ends nothing is to be given away. -/
theorem up_end (l : List Nat) : ∀ (f a : Nat), l.length - a ≤ f → cS l (upT (cS l) f a) = false
  | 0, a, h => by
    cases c : cS l a with
    | true => have := cS_lt c; omega
    | false => exact c
  | f + 1, a, h => by
    cases c : cS l a with
    | true =>
      simp only [upT, c, if_true]
      exact up_end l f (a + 1) (by omega)
    | false => simp only [upT, c, Bool.false_eq_true, if_false]
theorem dn_end (l : List Nat) : ∀ (a : Nat), cF l (dnT (cF l) a) = false
  | 0 => by
    cases c : cF l 0 with
    | true => have := cF_lt c; omega
    | false => exact c
  | a + 1 => by
    cases c : cF l (a + 1) with
    | true =>
      simp only [dnT, c, if_true]
      exact dn_end l a
    | false => simp only [dnT, c, Bool.false_eq_true, if_false]
/-- One further it would have been too much. -/
theorem dn_more (l : List Nat) : ∀ (a : Nat), dnT (cF l) a = a ∨ cF l (dnT (cF l) a + 1) = true
  | 0 => Or.inl rfl
  | a + 1 => by
    cases c : cF l (a + 1) with
    | true =>
      simp only [dnT, c, if_true]
      rcases dn_more l a with q | q
      · right; rw [q]; exact c
      · right; exact q
    | false => left; simp only [dnT, c, Bool.false_eq_true, if_false]
/-- A leaf's halves. -/
def lfA (p : Pg) : Pg := ⟨true, p.keys.take (mid (szs p.keys p.vals)), p.vals.take (mid (szs p.keys p.vals)), []⟩
def lfB (p : Pg) : Pg := ⟨true, p.keys.drop (mid (szs p.keys p.vals)), p.vals.drop (mid (szs p.keys p.vals)), []⟩
/-- A branch's. -/
def brA (p : Pg) : Pg := ⟨false, p.keys.take (p.keys.length / 2), [], p.kids.take (p.keys.length / 2 + 1)⟩
def brB (p : Pg) : Pg := ⟨false, p.keys.drop (p.keys.length / 2 + 1), [], p.kids.drop (p.keys.length / 2 + 1)⟩
def zeroP : Pg := ⟨false, [], [], []⟩
/-- The texts and numbers of sizes as cells. -/
def iv (l : List Nat) : List Value := l.map fun k => Value.int .i64 (k : Nat)
theorem iv_len (l : List Nat) : (iv l).length = l.length := by simp [iv]
theorem iv_take (l : List Nat) (k : Nat) : (iv l).take k = iv (l.take k) := by simp [iv]
theorem iv_drop (l : List Nat) (k : Nat) : (iv l).drop k = iv (l.drop k) := by simp [iv]
theorem iv_get {l : List Nat} {i : Nat} (h : i < l.length) : (iv l)[i]? = some (.int .i64 ((l.getD i 0 : Nat) : Int)) := by simp [iv, List.getD, h]
theorem Sl.int {w : World} {b o n cap : Nat} {l : List Nat} (h : Sl w (some ⟨b, o, none⟩) n cap (iv l)) {i : Nat} (hi : i < n) : w.cell? ⟨b, o + i, none⟩ = some (.int .i64 ((l.getD i 0 : Nat) : Int)) := by
  have := h.len
  rw [iv_len] at this
  exact h.cells i _ (iv_get (by omega))

end Go.Proofs.Ythdjghmipepppaa

