/- Rows of a call's own: lists that are read out of bytes. -/
import Derived.Test.YtcmifdnndckpcaaDoorCf
import Derived.Laws.OwnMore
namespace Go.Proofs.YtcmifdnndckpcaaDoor
open Go.RowKit
set_option linter.unusedVariables false
set_option linter.unusedSimpArgs false

/-- A row of a call's own: each thing takes k cells. -/
def Qf {α : Type} (T : TypeId) (k : Nat) (f : α → List Value) (w : World) (B : Nat) (v : Value) (xs : List α) : Prop := w.ownsRow B T k v xs.length (xs.flatMap f)
theorem Qf.nil {α : Type} (T : TypeId) (k : Nat) (f : α → List Value) (w : World) (B : Nat) : Qf T k f w B (.slice none 0 0) [] := World.ownsRow_nil _ _ _ _
theorem Qf.kept {α : Type} {T : TypeId} {k : Nat} {f : α → List Value} {w w' : World} {B : Nat} {v : Value} {xs : List α} (h : Qf T k f w B v xs) (hk : ∀ i, B ≤ i → i < w.heap.size → (∃ cs fr, w.heap[i]? = some (.cells cs T fr)) → w'.heap[i]? = w.heap[i]?) : Qf T k f w' B v xs := by
  refine ⟨h.1, ?_⟩
  rcases h.2 with hn | ⟨g, cap, cur, hv, hg, hb, rest⟩
  · exact .inl hn
  · exact .inr ⟨g, cap, cur, hv, hg, by rw [hk g hg (Array.getElem?_eq_some_iff.1 hb).1 ⟨_, _, hb⟩]; exact hb, rest⟩
theorem Qf.next {α : Type} {T : TypeId} {k : Nat} {f : α → List Value} {w w' : World} {B : Nat} {v : Value} {xs : List α} (h : Qf T k f w B v xs) (b : Below w.heap.size w w') : Qf T k f w' B v xs := h.kept fun i _ l _ => b.block i l
theorem Qf.but {α : Type} {T : TypeId} {k : Nat} {f : α → List Value} {w w' : World} {B p : Nat} {v : Value} {xs : List α} (h : Qf T k f w B v xs) (g : w.grownBy w' (some p)) (hp : p < B) : Qf T k f w' B v xs :=
  h.kept fun i hi l _ => g.block i l (fun e => by injection e with e; omega)
theorem Qf.mono {α : Type} {T : TypeId} {k : Nat} {f : α → List Value} {w : World} {B B' : Nat} {v : Value} {xs : List α} (h : Qf T k f w B v xs) (b : B' ≤ B) : Qf T k f w B' v xs := by
  refine ⟨h.1, ?_⟩
  rcases h.2 with hn | ⟨g, cap, cur, hv, hg, rest⟩
  · exact .inl hn
  · exact .inr ⟨g, cap, cur, hv, Nat.le_trans b hg, rest⟩
theorem Qf.slice {α : Type} {T : TypeId} {k : Nat} {f : α → List Value} {w : World} {B : Nat} {v : Value} {xs : List α} (h : Qf T k f w B v xs) : ∃ a c, v = .slice a xs.length c := by
  rcases h.2 with ⟨h1, h2⟩ | ⟨g, cap, cur, hv, _⟩
  · exact ⟨none, 0, by rw [h1, h2]⟩
  · exact ⟨_, _, hv⟩
theorem Qf.ty {α : Type} {T : TypeId} {k : Nat} {f : α → List Value} {w : World} {B : Nat} {v : Value} {xs : List α} (h : Qf T k f w B v xs) : ∀ i, v.ownBlock = some i → B ≤ i ∧ i < w.heap.size ∧ ∃ cs fr, w.heap[i]? = some (.cells cs T fr) := by
  intro i e
  rcases h.2 with ⟨h1, _⟩ | ⟨g, cap, cur, hv, hg, hb, _⟩
  · rw [h1] at e; cases e
  · rw [hv] at e
    injection e with e
    subst e
    exact ⟨hg, (Array.getElem?_eq_some_iff.1 hb).1, _, _, hb⟩
/-- Where the things' cells are. -/
theorem flat_at {α : Type} {k : Nat} {f : α → List Value} (hf : ∀ x, (f x).length = k) : ∀ (xs : List α) (i : Nat) (x : α) (j : Nat), xs[i]? = some x → j < k → (xs.flatMap f)[i * k + j]? = (f x)[j]? := by
  intro xs
  induction xs with
  | nil => intro i x j h; simp at h
  | cons y ys ih =>
    intro i x j h hj
    rw [List.flatMap_cons]
    cases i with
    | zero =>
      simp at h
      subst h
      rw [Nat.zero_mul, Nat.zero_add, List.getElem?_append_left (by rw [hf]; exact hj)]
    | succ i =>
      simp at h
      rw [List.getElem?_append_right (by rw [hf, Nat.succ_mul]; omega), hf, show (i + 1) * k + j - k = i * k + j by rw [Nat.succ_mul]; omega]
      exact ih i x j h hj
/-- A row as it is read. -/
theorem Qf.view {α : Type} {T : TypeId} {k : Nat} {f : α → List Value} {w : World} {B : Nat} {v : Value} {xs : List α} (h : Qf T k f w B v xs) (hf : ∀ x, (f x).length = k) {β : Type} (r : α → β) {A : World → Nat → Nat → β → Prop}
    (hA : ∀ g p x, x ∈ xs → (∀ j u, (f x)[j]? = some u → w.cell? ⟨g, p + j, none⟩ = some u) → A w g p (r x)) : ∃ a c, v = .slice a xs.length c ∧ Vw A k w a xs.length (xs.map r) := by
  rcases h.2 with ⟨h1, h2⟩ | ⟨g, cap, cur, hv, hg, hb, hn, hm, hs, ht⟩
  · have e : xs = [] := List.length_eq_zero_iff.1 h2
    subst e
    exact ⟨none, 0, h1, Vw.empty _ _ _⟩
  · refine ⟨_, _, hv, ⟨by simp, g, 0, fun _ => rfl, fun i y hy => ?_⟩⟩
    rw [List.getElem?_map] at hy
    cases hx : xs[i]? with
    | none => rw [hx] at hy; cases hy
    | some x =>
      rw [hx] at hy
      simp at hy
      subst hy
      refine hA g _ x (List.mem_of_getElem? hx) (fun j u hu => ?_)
      have hj : j < k := by
        have := (List.getElem?_eq_some_iff.1 hu).1
        rw [hf] at this
        exact this
      rw [Nat.zero_add]
      have hh : w.ownsRow B T k (.slice (some ⟨g, 0, none⟩) xs.length cap) xs.length (xs.flatMap f) := hv ▸ h
      have hi := (List.getElem?_eq_some_iff.1 hx).1
      rw [hh.cellAt (i * k + j) (by
        have : (i + 1) * k ≤ xs.length * k := Nat.mul_le_mul_right _ hi
        rw [Nat.succ_mul] at this
        omega), flat_at hf xs i x j hx hj]
      exact hu
theorem wpList_addQ {w : World} {ops : Array Oper} {rest : List Oper} {o : Oper} {a : Act} {Q : Exit → Act → World → Prop} {α : Type} (T tS : TypeId) (k bytes : Nat) (z : Value) (f : α → List Value) (hgd : o.guard = none) (sl x : Operand)
    (ho : o.op = .call { callee := .builtin .append, args := #[sl, x], argTypes := #[tS, tS] }) (hu : Tryd.prog.underlying tS = some (.slice T)) (hinfo : (Tryd.prog.info? T).map (fun i => (i.zero, i.size, i.bytes)) = some (some z, k, bytes)) (hz : z.cells.size = k) (hk : 0 < k) (hby : bytes ≤ 100)
    (hf : ∀ x, (f x).length = k) (B : Nat) (v : Value) (xs : List α) (y : α) (hs : a.eval sl = v) (hown : Qf T k f w B v xs) (h1 : ∀ u ∈ f y, u.oneCell' = true) (g : Nat) (hx : a.eval x = .slice (some ⟨g, 0, none⟩) 1 1) (hc : ∀ j u, (f y)[j]? = some u → w.cell? ⟨g, j, none⟩ = some u) (hl : xs.length ≤ 100000000) (hB : B ≤ w.heap.size)
    (h : ∀ v' w', Qf T k f w' B v' (xs ++ [y]) → w.grownBy w' v.ownBlock → wpList Tryd.prog ops Q rest (a.put o.dst v') w') : wpList Tryd.prog ops Q (o :: rest) a w := by
  obtain ⟨i0, hi, hz0, hz1, hz2⟩ := info_parts hinfo
  have hb2 : (xs.length + 1) * bytes ≤ 100000001 * 100 := Nat.mul_le_mul (by omega) hby
  refine wpList_append_own w hgd sl x tS ho B T i0 z k bytes hu hi hz0 hz1 hz2 hz hk v xs.length (xs.flatMap f) hs hown ⟨g, 0, none⟩ 1 1 (f y) hx (by rw [hf, Nat.one_mul]) (fun j u hu => ?_) h1 (by unfold maxLen; omega) (by omega) hB (fun v' w' h2 h3 _ => ?_)
  · rw [show (⟨g, 0, none⟩ : Addr).add j = ⟨g, j, none⟩ by unfold Addr.add; split <;> simp_all]
    exact hc j u hu
  · refine h v' w' ?_ h3
    show w'.ownsRow B T k v' (xs ++ [y]).length ((xs ++ [y]).flatMap f)
    rw [List.length_append, List.flatMap_append, show [y].flatMap f = f y by simp]
    exact h2

def fI (x : Int) : List Value := [.int .i64 x]
def fS (x : List Int) : List Value := [.string (strOfNums x)]
def fC (x : Int × Int) : List Value := [.int .i64 x.1, .int .i64 x.2, .slice none 0 0]
def fN (x : Int × Int × Int × Int) : List Value := [.int .i64 x.1, .int .i64 x.2.1, .int .i64 x.2.2.1, .int .i64 x.2.2.2]
def fT (x : (Int × Int × List Int × List Int) × Value × Value) : List Value := [.int .i64 x.1.1, .int .i64 x.1.2.1, x.2.1, x.2.2]
theorem info_Kind : (Tryd.prog.info? 56).map (fun i => (i.zero, i.size, i.bytes)) = some (some (.int .i64 0), 1, 8) := by kernel_rfl
theorem info_I64 : (Tryd.prog.info? 2).map (fun i => (i.zero, i.size, i.bytes)) = some (some (.int .i64 0), 1, 8) := by kernel_rfl
theorem info_Str : (Tryd.prog.info? 9).map (fun i => (i.zero, i.size, i.bytes)) = some (some (.string ⟨#[]⟩), 1, 16) := by kernel_rfl
theorem info_Val : (Tryd.prog.info? 62).map (fun i => (i.zero, i.size, i.bytes)) = some (some (.agg #[.int .i64 0, .int .i64 0, .slice none 0 0]), 3, 40) := by kernel_rfl
theorem info_Ins : (Tryd.prog.info? 36).map (fun i => (i.zero, i.size, i.bytes)) = some (some (.agg #[.int .i64 0, .int .i64 0, .int .i64 0, .int .i64 0]), 4, 32) := by kernel_rfl
theorem info_Tab : (Tryd.prog.info? 59).map (fun i => (i.zero, i.size, i.bytes)) = some (some (.agg #[.int .i64 0, .int .i64 0, .slice none 0 0, .slice none 0 0]), 4, 64) := by kernel_rfl

/-- A row of tables: the numbers of each lie in rows of their own. -/
structure QT (w : World) (B : Nat) (v : Value) (xs : List (Int × Int × List Int × List Int)) : Prop where
  ex : ∃ R : List ((Int × Int × List Int × List Int) × Value × Value), R.map Prod.fst = xs ∧ Qf 59 4 fT w B v R ∧ ∀ r ∈ R, Qf 2 1 fI w B r.2.1 r.1.2.2.1 ∧ Qf 2 1 fI w B r.2.2 r.1.2.2.2
theorem QT.nil (w : World) (B : Nat) : QT w B (.slice none 0 0) [] := ⟨[], rfl, Qf.nil _ _ _ _ _, fun r h => by simp at h⟩
theorem QT.next {w w' : World} {B : Nat} {v : Value} {xs : List (Int × Int × List Int × List Int)} (h : QT w B v xs) (b : Below w.heap.size w w') : QT w' B v xs := by
  obtain ⟨R, h1, h2, h3⟩ := h.ex
  exact ⟨R, h1, h2.next b, fun r hr => ⟨(h3 r hr).1.next b, (h3 r hr).2.next b⟩⟩
theorem QT.but {w w' : World} {B p : Nat} {v : Value} {xs : List (Int × Int × List Int × List Int)} (h : QT w B v xs) (g : w.grownBy w' (some p)) (hp : p < B) : QT w' B v xs := by
  obtain ⟨R, h1, h2, h3⟩ := h.ex
  exact ⟨R, h1, h2.but g hp, fun r hr => ⟨(h3 r hr).1.but g hp, (h3 r hr).2.but g hp⟩⟩
theorem QT.mono {w : World} {B B' : Nat} {v : Value} {xs : List (Int × Int × List Int × List Int)} (h : QT w B v xs) (b : B' ≤ B) : QT w B' v xs := by
  obtain ⟨R, h1, h2, h3⟩ := h.ex
  exact ⟨R, h1, h2.mono b, fun r hr => ⟨(h3 r hr).1.mono b, (h3 r hr).2.mono b⟩⟩

theorem view_I {T : TypeId} {w : World} {B : Nat} {v : Value} {xs : List Int} (h : Qf T 1 fI w B v xs) (ok : ∀ x ∈ xs, cI.ok x) : ∃ a c, v = .slice a xs.length c ∧ Vw aI 1 w a xs.length xs := by
  have := h.view (fun _ => rfl) id (A := aI) (fun g p x hx hc => ⟨hc 0 _ rfl, ok x hx⟩)
  rw [List.map_id] at this
  exact this
theorem view_S {T : TypeId} {w : World} {B : Nat} {v : Value} {xs : List (List Int)} (h : Qf T 1 fS w B v xs) (ok : ∀ x ∈ xs, Bys x ∧ x.length ≤ maxLen) : ∃ a c, v = .slice a xs.length c ∧ Vw aS 1 w a xs.length xs := by
  have := h.view (fun _ => rfl) id (A := aS) (fun g p x hx hc => ⟨strOfNums x, hc 0 _ rfl, str_nums (ok x hx).1, by
    have e := nums_len (strOfNums x)
    rw [str_nums (ok x hx).1] at e
    rw [← e]; exact (ok x hx).2⟩)
  rw [List.map_id] at this
  exact this
theorem view_C {T : TypeId} {w : World} {B : Nat} {v : Value} {xs : List (Int × Int)} (h : Qf T 3 fC w B v xs) (ok : ∀ x ∈ xs, cC.ok x) : ∃ a c, v = .slice a xs.length c ∧ Vw aC 3 w a xs.length xs := by
  have := h.view (fun _ => rfl) id (A := aC) (fun g p x hx hc => ⟨hc 0 _ rfl, hc 1 _ rfl, ⟨none, 0, 0, hc 2 _ rfl⟩, ok x hx⟩)
  rw [List.map_id] at this
  exact this
theorem view_N {T : TypeId} {w : World} {B : Nat} {v : Value} {xs : List (Int × Int × Int × Int)} (h : Qf T 4 fN w B v xs) (ok : ∀ x ∈ xs, cN.ok x) : ∃ a c, v = .slice a xs.length c ∧ Vw aN 4 w a xs.length xs := by
  have := h.view (fun _ => rfl) id (A := aN) (fun g p x hx hc => ⟨hc 0 _ rfl, hc 1 _ rfl, hc 2 _ rfl, hc 3 _ rfl, ok x hx⟩)
  rw [List.map_id] at this
  exact this
theorem view_T {w : World} {B : Nat} {v : Value} {xs : List (Int × Int × List Int × List Int)} (h : QT w B v xs) (ok : ∀ x ∈ xs, (cT false).ok x) : ∃ a c, v = .slice a xs.length c ∧ Vw aT 4 w a xs.length xs := by
  obtain ⟨R, h1, h2, h3⟩ := h.ex
  have := h2.view (fun _ => rfl) Prod.fst (A := aT) (fun g p x hx hc => by
    have o := ok x.1 (by rw [← h1]; exact List.mem_map_of_mem hx)
    obtain ⟨a1, c1, e1, v1⟩ := view_I (h3 x hx).1 o.2.2.1.1
    obtain ⟨a2, c2, e2, v2⟩ := view_I (h3 x hx).2 o.2.2.2.1
    refine ⟨hc 0 _ rfl, hc 1 _ rfl, o.1, o.2.1, ⟨a1, c1, ?_, v1⟩, ⟨a2, c2, ?_, v2⟩⟩
    · rw [← e1]; exact hc 2 _ rfl
    · rw [← e2]; exact hc 3 _ rfl)
  rw [h1, show R.length = xs.length by rw [← h1, List.length_map]] at this
  exact this

/-- What a reading call leaves: the Reader read on; all else stays. -/
theorem fr_row {w wr w' : World} {p : Nat} {ob : Option Nat} (h : w.grownBy wr (some p)) (g : wr.grownBy w' ob) (ho : ∀ k, ob = some k → w.heap.size ≤ k) : w.grownBy w' (some p) :=
  ⟨g.os.trans h.os, g.tape.trans h.tape, g.output.trans h.output, Nat.le_trans h.size g.size, fun k hk hne => (g.block k (Nat.lt_of_lt_of_le hk h.size) (fun e => by have := ho k e.symm; omega)).trans (h.block k hk hne)⟩
theorem fr_below {w wr w' : World} {p : Nat} (h : w.grownBy wr (some p)) (b : Below wr.heap.size wr w') : w.grownBy w' (some p) :=
  fr_row h (ob := none) ⟨b.os, b.tape, b.output, b.size, fun k hk _ => b.block k hk⟩ (fun k e => by cases e)
theorem Rd.row {w w' : World} {p q : Nat} {bad : Bool} {bs : List Int} {ob : Option Nat} (h : Rd w p q bad bs) (g : w.grownBy w' ob) (h1 : ob ≠ some p) (h2 : ob ≠ some q) : Rd w' p q bad bs := by
  cases ob with
  | none => exact h.below ⟨g.os, g.tape, g.output, g.size, fun k hk => g.block k hk (by simp)⟩
  | some r => exact h.grown g (fun e => h1 (by rw [e])) (fun e => h2 (by rw [e]))

end Go.Proofs.YtcmifdnndckpcaaDoor
