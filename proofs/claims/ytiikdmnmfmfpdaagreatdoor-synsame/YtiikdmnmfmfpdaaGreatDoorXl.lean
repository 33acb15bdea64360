/- What serves the walk over the reference's row. -/
import Derived.Test.YtiikdmnmfmfpdaaGreatDoorGD
import Derived.BigQuiet
import Derived.Deep.RegionHeld3
namespace Go.Proofs.YtiikdmnmfmfpdaaGreatDoor
open Go.RowKit
set_option linter.unusedVariables false
set_option linter.unusedSimpArgs false

/-- A tree in a box that may be written anew: its kids lie in other blocks. -/
structure Bq (w : World) (n q : Nat) (t : Tr) (sl : Value) : Prop where
  b : B6 w q (.string t.op) (.string t.name) (.int .i64 (t.kind : Nat)) (.int .i64 t.n) (.int .i64 (t.pl : Nat)) sl
  d : Nd w (fun g => n ≤ g ∧ g ≠ q) sl t.kids
  l : n ≤ q
theorem Bq.gr {w w' : World} {n g p : Nat} {t : Tr} {sl : Value} (h : Bq w n g t sl) (q : Gr w w' p) (hp : p < n) : Bq w' n g t sl :=
  ⟨h.b.gr q (by have := h.l; omega), h.d.keep fun g s l => ⟨s, q.block g l (fun e => by injection e with e; omega)⟩, h.l⟩
theorem Bq.next {w w' : World} {n g : Nat} {t : Tr} {sl : Value} (h : Bq w n g t sl) (q : Below w.heap.size w w') : Bq w' n g t sl :=
  ⟨h.b.next q, h.d.keep fun g s l => ⟨s, q.block g l⟩, h.l⟩
theorem Bq.new {w : World} {n m : Nat} {t : Tr} {sl : Value} (hn : Nd w (fun q => n ≤ q) sl t.kids) (hm : m ≤ n) (hw : m ≤ w.heap.size) (ty : TypeId) : Bq (w.alloc (.cells #[.string t.op, .string t.name, .int .i64 (t.kind : Nat), .int .i64 t.n, .int .i64 (t.pl : Nat), sl] ty)) m w.heap.size t sl :=
  ⟨B6.new w ty _ _ _ _ _ _, hn.keep fun g s l => ⟨⟨Nat.le_trans hm s, by omega⟩, ((Below.refl _ _).alloc (Nat.le_refl _) _).block g l⟩, hw⟩
/-- The operators of a row, in memory. -/
def Os (w : World) (g : Nat) (l : List ByteArray) : Prop := ∀ i t, l[i]? = some t → w.cell? ⟨g, i, none⟩ = some (.string t)
theorem Os.keep {w w' : World} {g : Nat} {l : List ByteArray} (h : Os w g l) (e : w'.heap[g]? = w.heap[g]?) : Os w' g l := fun i t q => by rw [World.cell?_of_block (a := ⟨g, i, none⟩) e]; exact h i t q
theorem Os.lt {w : World} {g : Nat} {l : List ByteArray} (h : Os w g l) (hl : 0 < l.length) : g < w.heap.size := World.block_lt_of_cell? _ _ (h 0 _ (List.getElem?_eq_getElem hl))
/-- What a round of row finds. -/
structure Lp (w wr : World) (p b c : Nat) (ws : List Wo) (d n0 q g : Nat) (ops : List ByteArray) (t : Tr) (sl : Value) (s : Sp) : Prop where
  hs : Sw wr p b c ws d s
  hg : Gr w wr p
  hb : B6 wr w.heap.size (.string ⟨#[]⟩) (.string ⟨#[]⟩) (.int .i64 0) (.int .i64 0) (.int .i64 0) (.slice none 0 0)
  sz : n0 ≤ wr.heap.size
  bq : Bq wr n0 q t sl
  os : Os wr g ops
  ol : 0 < ops.length
  pn : p < w.heap.size
  bn : b < w.heap.size
  wn : w.heap.size < n0
  gn : n0 ≤ g
theorem Lp.next {w wr w' : World} {p b c : Nat} {ws : List Wo} {d n0 q g : Nat} {ops : List ByteArray} {t : Tr} {sl : Value} {s : Sp} (h : Lp w wr p b c ws d n0 q g ops t sl s) (k : Below wr.heap.size wr w') : Lp w w' p b c ws d n0 q g ops t sl s :=
  ⟨h.hs.next k, h.hg.below k, h.hb.next k, Nat.le_trans h.sz k.size, h.bq.next k, h.os.keep (k.block g (h.os.lt h.ol)), h.ol, h.pn, h.bn, h.wn, h.gn⟩
theorem Lp.gr {w wr w' : World} {p b c : Nat} {ws : List Wo} {d n0 q g : Nat} {ops : List ByteArray} {t : Tr} {sl : Value} {s s' : Sp} (h : Lp w wr p b c ws d n0 q g ops t sl s) (hs : Sw w' p b c ws d s') (k : Gr wr w' p) : Lp w w' p b c ws d n0 q g ops t sl s' :=
  ⟨hs, h.hg.trans k, h.hb.gr k (by have := h.pn; omega), Nat.le_trans h.sz k.size, h.bq.gr k (by have := h.pn; have := h.wn; omega), h.os.keep (k.block g (h.os.lt h.ol) (fun e => by injection e with e; have := h.pn; have := h.wn; have := h.gn; omega)), h.ol, h.pn, h.bn, h.wn, h.gn⟩
/-- The tree is written anew: its kids' row lies in a block of its own. -/
theorem Lp.up {w wr : World} {p b c : Nat} {ws : List Wo} {d n0 q g : Nat} {ops : List ByteArray} {t : Tr} {sl : Value} {s : Sp} (h : Lp w wr p b c ws d n0 q g ops t sl s) (t' : Tr) (sl' : Value) (hn : Nd wr (fun g => n0 ≤ g ∧ g ≠ q) sl' t'.kids) (hq : g ≠ q) :
    Lp w ((((((wr.setCell ⟨q, 0, none⟩ (.string t'.op)).setCell ⟨q, 1, none⟩ (.string t'.name)).setCell ⟨q, 2, none⟩ (.int .i64 (t'.kind : Nat))).setCell ⟨q, 3, none⟩ (.int .i64 t'.n)).setCell ⟨q, 4, none⟩ (.int .i64 (t'.pl : Nat))).setCell ⟨q, 5, none⟩ sl') p b c ws d n0 q g ops t' sl' s := by
  have a1 := h.pn
  have a2 := h.wn
  have a3 := h.bq.l
  have a4 := h.bn
  exact ⟨h.hs.put6 (by omega) (by omega) _ _ _ _ _ _, h.hg.put6 (by omega) _ _ _ _ _ _, h.hb.put6 (by omega) _ _ _ _ _ _, by rw [size6]; exact h.sz, ⟨h.bq.b.sets _ _ _ _ _ _, hn.put6 (fun e => e.2 rfl) _ _ _ _ _ _, h.bq.l⟩, h.os.keep (heap6 _ _ _ _ _ _ _ _ _ hq), h.ol, h.pn, h.bn, h.wn, h.gn⟩
def rowOps (lv : Nat) : List ByteArray :=
  match lv with
  | 0 => [⟨#[111, 114]⟩]
  | 1 => [⟨#[97, 110, 100]⟩]
  | 2 => [⟨#[60]⟩, ⟨#[60, 61]⟩, ⟨#[62]⟩, ⟨#[62, 61]⟩, ⟨#[61, 61]⟩, ⟨#[33, 61]⟩]
  | 3 => [⟨#[43]⟩, ⟨#[45]⟩]
  | _ => [⟨#[42]⟩, ⟨#[47]⟩]
theorem os_new (w : World) (l : List ByteArray) (ty : TypeId) : Os (w.alloc (.cells (l.map Value.string).toArray ty)) w.heap.size l := by
  intro i s h
  simp [h]
theorem Os.al {w : World} {g : Nat} {l : List ByteArray} (h : Os w g l) (hl : 0 < l.length) (o : Obj) : Os (w.alloc o) g l := h.keep (((Below.refl w.heap.size w).alloc (Nat.le_refl _) o).block g (h.lt hl))
theorem eqB_eqX {a b : ByteArray} (h : eqB a b = true) : a = b := by
  unfold eqB at h
  rw [beq_iff_eq] at h
  obtain ⟨x⟩ := a
  obtain ⟨y⟩ := b
  have : x = y := Array.toList_inj.1 h
  rw [this]
theorem is_tw {s : Sp} {t : ByteArray} (h : s.is t = true) : tw s.l = t := by
  unfold Sp.is at h
  simp only [Bool.and_eq_true] at h
  exact eqB_eqX h.2
theorem lv_any (x : ByteArray) (lv : Nat) (h : lv < 5) : (lvF x == (lv : Int)) = (rowOps lv).any (fun t => eqB x t) := by
  cases e : (rowOps lv).any (fun t => eqB x t) with
  | true =>
    obtain ⟨t, ht, q⟩ := List.any_eq_true.1 e
    have q := eqB_eqX q
    subst q
    match lv, h with
    | 0, _ => simp only [rowOps, List.mem_singleton] at ht; subst ht; decide
    | 1, _ => simp only [rowOps, List.mem_singleton] at ht; subst ht; decide
    | 2, _ => simp only [rowOps, List.mem_cons, List.not_mem_nil, or_false] at ht; rcases ht with rfl | rfl | rfl | rfl | rfl | rfl <;> decide
    | 3, _ => simp only [rowOps, List.mem_cons, List.not_mem_nil, or_false] at ht; rcases ht with rfl | rfl <;> decide
    | 4, _ => simp only [rowOps, List.mem_cons, List.not_mem_nil, or_false] at ht; rcases ht with rfl | rfl <;> decide
  | false =>
    match lv, h with
    | 0, _ => simp only [rowOps, List.any_cons, List.any_nil, Bool.or_false] at e; unfold lvF; rw [e]; simp only [Bool.false_eq_true, if_false]; repeat' split
              all_goals rfl
    | 1, _ => simp only [rowOps, List.any_cons, List.any_nil, Bool.or_false] at e; unfold lvF; rw [e]; simp only [Bool.false_eq_true, if_false]; repeat' split
              all_goals rfl
    | 2, _ => simp only [rowOps, List.any_cons, List.any_nil, Bool.or_false, Bool.or_eq_false_iff] at e; obtain ⟨e1, e2, e3, e4, e5, e6⟩ := e; unfold lvF; rw [e1, e2, e3, e4, e5, e6]; simp only [Bool.false_eq_true, if_false, Bool.or_false]; repeat' split
              all_goals rfl
    | 3, _ => simp only [rowOps, List.any_cons, List.any_nil, Bool.or_false, Bool.or_eq_false_iff] at e; obtain ⟨e1, e2⟩ := e; unfold lvF; rw [e1, e2]; simp only [Bool.false_eq_true, if_false, Bool.or_false]; repeat' split
              all_goals rfl
    | 4, _ => simp only [rowOps, List.any_cons, List.any_nil, Bool.or_false, Bool.or_eq_false_iff] at e; obtain ⟨e1, e2⟩ := e; unfold lvF; rw [e1, e2]; simp only [Bool.false_eq_true, if_false, Bool.or_false]; repeat' split
              all_goals rfl
theorem opAt_any (lv : Nat) (h : lv < 5) (s : Sp) : opAt lv s = (rowOps lv).any (fun t => s.is t) := by
  unfold opAt
  rw [lv_any _ _ h]
  have : (fun t => s.is t) = (fun t => (s.ok && (kw s.l == 2 || kw s.l == 7)) && eqB (tw s.l) t) := rfl
  rw [this]
  generalize (s.ok && (kw s.l == 2 || kw s.l == 7)) = z
  cases z with
  | true => simp
  | false => simp
theorem loopX_no {B : Ax} {lv f : Nat} {t : Tr} {s : Sp} (h : opAt lv s = false) : loopX B lv f t s = (t, s) := by
  cases f with
  | zero => rfl
  | succ f => unfold loopX; rw [h]; rfl
theorem loop_two {B : Ax} {f : Nat} {t : Tr} {s : Sp} (h : opAt 2 s = true) (hf : 0 < f) : loopX B 2 f t s = (two (tw s.l) (aw s.l) t (B s.nx).1, (B s.nx).2) := by
  cases f with
  | zero => omega
  | succ f => unfold loopX; rw [h]; rfl
theorem loop_on {B : Ax} {lv f : Nat} {t : Tr} {s : Sp} (h : opAt lv s = true) (h2 : lv ≠ 2) (hf : 0 < f) : loopX B lv f t s = loopX B lv (f - 1) (two (tw s.l) (aw s.l) t (B s.nx).1) (B s.nx).2 := by
  cases f with
  | zero => omega
  | succ f => rw [loopX, if_pos h, if_neg h2]; rfl
theorem nx_len {s : Sp} (h : 0 < s.l.length) : s.nx.l.length < s.l.length := by
  show s.l.tail.length < _
  rw [List.length_tail]
  omega
end Go.Proofs.YtiikdmnmfmfpdaaGreatDoor
