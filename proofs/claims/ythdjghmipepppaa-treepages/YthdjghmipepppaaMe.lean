/- The library's slices.Insert and slices.Delete of texts, at this program's numbers. slices.Insert and slices.Delete of texts. The walks over package page: Find, Kid. The walk over package page: Put. The walks over package page: Put of a branch, Drop. -/
import Derived.Test.YthdjghmipepppaaMb
import Derived.Shelf.Spec.SlicesInsert
import Derived.Shelf.Spec.SlicesInsertGrow
import Derived.Shelf.Slices.Delete
import Derived.Shelf.Slices.Cells
import Derived.KernelRfl
import Derived.Test.YthdjghmipepppaaMd
import Derived.Shelf.Spec.SearchS
namespace Go.Proofs.Ythdjghmipepppaa
open Go.Shelf Go.RowKit
set_option linter.unusedVariables false
set_option linter.unusedSimpArgs false

def renI : Ren := ⟨fun | 17 => 99 | 22 => 64 | 24 => 69 | 29 => 83 | 30 => 84 | 36 => 95 | n => n, fun | 9 => 9 | 24 => 52 | n => n, fun n => n⟩
theorem laysI : Lays2.n22 Try.prog renI :=
  { mixed := by kernel_rfl
    f17 := by kernel_rfl
    f22 := by kernel_rfl
    f29 := by kernel_rfl
    f30 := by kernel_rfl
    f36 := by kernel_rfl
    t0 := by kernel_rfl
    a0 := fun _ => by kernel_rfl
    z0 := fun _ => by kernel_rfl
    v0 := fun _ => by kernel_rfl
    t3 := by kernel_rfl
    a3 := fun _ => by kernel_rfl
    z3 := fun _ => by kernel_rfl
    v3 := fun _ => by kernel_rfl
    t4 := by kernel_rfl
    a4 := fun _ => by kernel_rfl
    z4 := fun _ => by kernel_rfl
    v4 := fun _ => by kernel_rfl
    t9 := by kernel_rfl
    a9 := fun _ => by kernel_rfl
    z9 := fun _ => by kernel_rfl
    v9 := fun _ => by kernel_rfl
    t24 := by kernel_rfl
    a24 := fun _ => by kernel_rfl
    z24 := fun _ => by kernel_rfl
    v24 := fun _ => by kernel_rfl
    i9 := by kernel_rfl }
theorem laysD : Lays2.n24 Try.prog renI :=
  { mixed := by kernel_rfl
    f24 := by kernel_rfl
    t0 := by kernel_rfl
    a0 := fun _ => by kernel_rfl
    z0 := fun _ => by kernel_rfl
    v0 := fun _ => by kernel_rfl
    t3 := by kernel_rfl
    a3 := fun _ => by kernel_rfl
    z3 := fun _ => by kernel_rfl
    v3 := fun _ => by kernel_rfl
    t4 := by kernel_rfl
    a4 := fun _ => by kernel_rfl
    z4 := fun _ => by kernel_rfl
    v4 := fun _ => by kernel_rfl
    t9 := by kernel_rfl
    a9 := fun _ => by kernel_rfl
    z9 := fun _ => by kernel_rfl
    v9 := fun _ => by kernel_rfl
    t24 := by kernel_rfl
    a24 := fun _ => by kernel_rfl
    z24 := fun _ => by kernel_rfl
    v24 := fun _ => by kernel_rfl
    i9 := by kernel_rfl }

end Go.Proofs.Ythdjghmipepppaa

namespace Go.Proofs.Ythdjghmipepppaa
open Go.Shelf Go.RowKit
set_option linter.unusedVariables false
set_option linter.unusedSimpArgs false

theorem grownBy_setCells (g : Nat) : ∀ (vs : List Value) (o : Nat) (w : World), w.grownBy (w.setCells g o vs) (some g)
  | [], o, w => World.grownBy.refl w _
  | v :: r, o, w => grownBy_trans (grownBy_setCell w g o v) (grownBy_setCells g r (o + 1) _)
theorem grownBy_drew (w : World) (r : Option Nat) : w.grownBy w.drew r := ⟨rfl, rfl, rfl, Nat.le_refl _, fun _ _ _ => rfl⟩
theorem grownBy_drewN (w : World) (n : Nat) (r : Option Nat) : w.grownBy (w.drewN n) r := ⟨rfl, rfl, rfl, Nat.le_refl _, fun _ _ _ => rfl⟩
theorem grownBy_alloc (w : World) (o : Obj) (r : Option Nat) : w.grownBy (w.alloc o) r := ⟨rfl, rfl, rfl, by simp, fun k hk _ => Below.heap_alloc _ _ _ hk⟩

/-- What Insert answers: where it lies, and what. -/
structure InsP (w w' : World) (v : Value) (e : Ending) (n : Nat) (vs : List Value) : Prop where
  ex : ∃ a c, e = .returned (.slice a n c) ∧ Sl w' a n c vs ∧ (∀ x, a = some x → some x.block = v.ownBlock ∨ x.block = w.heap.size)
  gr : w.grownBy w' v.ownBlock

/-- Cells in the order they lie make a slice. -/
theorem sl_of {w : World} {b n cap : Nat} {vs : List Value} (hl : vs.length = n) (hf : n ≤ cap) (hm : cap ≤ maxLen) (hc : ∀ i u, vs[i]? = some u → w.cell? ⟨b, i, none⟩ = some u) (h1 : ∀ u ∈ vs, u.oneCell' = true) : Sl w (some ⟨b, 0, none⟩) n cap vs :=
  ⟨hl, hf, hm, fun e => by simp at e, ⟨b, 0, fun _ => rfl, fun i u hi => by rw [Nat.zero_add]; exact hc i u hi⟩, h1⟩

theorem sv_ins (ss : List ByteArray) (i : Nat) (x : ByteArray) : sv (insAt ss i x) = (sv ss).take i ++ Value.string x :: (sv ss).drop i := by
  unfold insAt
  rw [sv_app]
  simp [sv]
theorem ins_get {ss : List ByteArray} {i j : Nat} {x : ByteArray} {u : Value} (hi : i ≤ ss.length) (h : (sv (insAt ss i x))[j]? = some u) : (j < i ∧ (sv ss)[j]? = some u) ∨ (j = i ∧ u = .string x) ∨ (i < j ∧ (sv ss)[j - 1]? = some u) := by
  rw [sv_ins] at h
  have hl : ((sv ss).take i).length = i := by rw [List.length_take, sv_len]; omega
  rcases Nat.lt_or_ge j i with q | q
  · left
    rw [List.getElem?_append_left (by omega), List.getElem?_take_of_lt q] at h
    exact ⟨q, h⟩
  · rw [List.getElem?_append_right (by omega), hl] at h
    rcases Nat.lt_or_ge i j with r | r
    · right; right
      have e : j - i = (j - i - 1) + 1 := by omega
      rw [e, List.getElem?_cons_succ, List.getElem?_drop] at h
      refine ⟨r, ?_⟩
      rw [show j - 1 = i + (j - i - 1) by omega]
      exact h
    · right; left
      obtain rfl : j = i := by omega
      rw [Nat.sub_self, List.getElem?_cons_zero] at h
      exact ⟨rfl, by injection h with h; exact h.symm⟩

theorem cell_alloc_new (w : World) (cs : Array Value) (t : TypeId) (j : Nat) : (w.alloc (.cells cs t)).cell? ⟨w.heap.size, j, none⟩ = cs[j]? :=
  cell_of_row _ _ _ _ _ _ (heap_alloc_new w _)

theorem Insert_any (v : Value) (ss : List ByteArray) (i : Nat) (x : ByteArray) (base : Nat) (w : World) (h : Ow w 9 base v (sv ss)) (hi : i ≤ ss.length) (hn : ss.length ≤ 100000) (vb : Nat) (hv : w.heap[vb]? = some (.cells #[.string x] 9 (0, 0))) (hne : v.ownBlock ≠ some vb) :
    Calls Try.prog 64 #[v, .int .i64 (i : Nat), .slice (some ⟨vb, 0, none⟩) 1 1] w fun e w' => InsP w w' v e (ss.length + 1) (sv (insAt ss i x)) := by
  have hil : (sv (insAt ss i x)).length = ss.length + 1 := by rw [sv_len]; exact insAt_len hi
  have h1v : ∀ u ∈ [Value.string x], u.oneCell' = true := fun u hu => by simp at hu; subst hu; rfl
  have hvs : ∀ j u, ([Value.string x])[j]? = some u → w.cell? ⟨vb, 0 + j, none⟩ = some u := fun j u hj => by
    have := lt_of_some hj
    obtain rfl : j = 0 := by simp at this; omega
    rw [cell_of_row _ _ _ _ _ _ hv]
    exact hj
  have gc : ∀ n c, n ≤ 100001 → n ≤ grownCap w n c 9 ∧ grownCap w n c 9 ≤ maxLen := fun n c hn => ⟨grownCap_ge w n c 9, grownCap_le_maxLen w n c 9 (by unfold maxLen; omega)⟩
  rcases h.row.2 with ⟨rfl, h0⟩ | ⟨g, cap, cur, rfl, hb, hg, hnc, hcm, hcs, ht⟩
  · rw [sv_len] at h0
    obtain rfl : ss = [] := List.length_eq_zero_iff.1 h0
    obtain rfl : i = 0 := by simpa using hi
    refine (Any2.slices_Insert_string_end_grow laysI none 0 0 vb 0 1 1 [] [.string x] w (by decide) (Nat.le_refl _) (by decide) (by decide) rfl rfl (fun _ => rfl) (fun a e => by cases e) hvs h1v).mono ?_
    rintro e w' ⟨rfl, rfl⟩
    have g1 := gc (0 + 1) 0 (by omega)
    refine ⟨⟨some ⟨w.heap.size, 0, none⟩, _, rfl, sl_of (by rw [sv_len]; rfl) g1.1 g1.2 (fun j u hj => ?_) (sv_one _), fun y hy => by simp at hy; subst hy; exact Or.inr rfl⟩, grownBy_trans (grownBy_drew w _) (grownBy_alloc _ _ _)⟩
    have := lt_of_some hj
    obtain rfl : j = 0 := by rw [sv_len] at this; simp [insAt] at this; omega
    have q := cell_alloc_new w.drew ((([] : List Value) ++ [Value.string x]).toArray ++ Builtin.zeroCells (Value.string ⟨#[]⟩).cells (grownCap w (0 + 1) 0 9 - (0 + 1))) 9 0
    refine Eq.trans q ?_
    rw [Array.getElem?_append_left (by simp)]
    simpa [sv, insAt] using hj
  · rw [sv_len] at hnc ht ⊢
    rw [Nat.mul_one] at hcs ht
    have hcell : ∀ j u, (sv ss)[j]? = some u → w.cell? ⟨g, 0 + j, none⟩ = some u := fun j u hj => by
      have hjl := lt_of_some hj
      rw [sv_len] at hjl
      rw [Nat.zero_add, cell_of_row _ _ _ _ _ _ hg]
      rw [← ht, List.getElem?_take_of_lt hjl, Array.getElem?_toList] at hj
      exact hj
    have hsome : ∀ j, j < cap → (w.cell? ⟨g, j, none⟩).isSome = true := fun j hj => by
      rw [cell_of_row _ _ _ _ _ _ hg, Array.getElem?_eq_getElem (by omega)]
      rfl
    have hfz : ∀ j, w.frozen? ⟨g, j, none⟩ = false := fun j => frozen_of_row _ _ _ _ _ hg
    have hgv : vb ≠ g := fun e => hne (by rw [e]; rfl)
    have hm63 : cap ≤ 9223372036854775807 := by unfold maxLen at hcm; omega
    have own : ∀ y : Addr, some (⟨g, 0, none⟩ : Addr) = some y → some y.block = (Value.slice (some ⟨g, 0, none⟩) ss.length cap).ownBlock ∨ y.block = w.heap.size := fun y hy => by
      injection hy with hy; subst hy; exact Or.inl rfl
    have new : ∀ y : Addr, some (⟨w.heap.size, 0, none⟩ : Addr) = some y → some y.block = (Value.slice (some ⟨g, 0, none⟩) ss.length cap).ownBlock ∨ y.block = w.heap.size := fun y hy => by
      injection hy with hy; subst hy; exact Or.inr rfl
    by_cases ci : i = ss.length
    · subst ci
      by_cases cr : ss.length + 1 ≤ cap
      · refine (Any2.slices_Insert_string_end_room laysI g 0 ss.length cap vb 0 1 1 [.string x] w (by decide) cr hm63 rfl (fun j hj => hsome _ (by omega)) (fun j hj => hfz _) hvs h1v).mono ?_
        rintro e w' ⟨rfl, rfl⟩
        refine ⟨⟨_, _, rfl, sl_of hil cr hcm (fun j u hj => ?_) (sv_one _), own⟩, grownBy_setCells g _ _ w⟩
        rcases ins_get (Nat.le_refl _) hj with ⟨q, r⟩ | ⟨q, r⟩ | ⟨q, r⟩
        · rw [World.cell?_setCells_out g _ _ w ⟨g, j, none⟩ (fun _ _ => by left; show j < 0 + ss.length; omega)]
          have := hcell j u r
          rwa [Nat.zero_add] at this
        · subst q r
          have := World.cell?_setCells_in g [Value.string x] (0 + ss.length) w (fun j hj => hsome _ (by simp at hj; omega)) 0 (by simp)
          simp only [Nat.zero_add, Nat.add_zero] at this ⊢
          exact this
        · have := lt_of_some hj
          omega
      · refine (Any2.slices_Insert_string_end_grow laysI (some ⟨g, 0, none⟩) ss.length cap vb 0 1 1 (sv ss) [.string x] w (by decide) hnc (by omega) (by omega) (sv_len ss) rfl (fun e => by cases e) (fun a e j u hj => by injection e with e; subst e; rw [Addr.add_mid]; exact hcell j u hj) hvs h1v).mono ?_
        rintro e w' ⟨rfl, rfl⟩
        have g1 := gc (ss.length + 1) cap (by omega)
        refine ⟨⟨_, _, rfl, sl_of hil g1.1 g1.2 (fun j u hj => ?_) (sv_one _), new⟩, grownBy_trans (grownBy_drew w _) (grownBy_alloc _ _ _)⟩
        have hjl := lt_of_some hj
        refine Eq.trans (cell_alloc_new w.drew _ 9 j) ?_
        rw [Array.getElem?_append_left (by simp [sv_len]; omega)]
        rw [sv_ins] at hj
        have e1 : (sv ss).take ss.length = sv ss := List.take_of_length_le (by rw [sv_len]; exact Nat.le_refl _)
        have e2 : (sv ss).drop ss.length = [] := List.drop_of_length_le (by rw [sv_len]; exact Nat.le_refl _)
        rw [e1, e2] at hj
        rw [List.getElem?_toArray]
        exact hj
    · have il : i < ss.length := by omega
      by_cases cr : ss.length + 1 ≤ cap
      · refine (Any2.slices_Insert_string_shift laysI g 0 ss.length cap i vb 0 1 1 (sv ss) [.string x] w il (by decide) cr hm63 hgv (sv_len ss) rfl hcell (fun j hj => by rw [Nat.zero_add]; exact hsome _ (by omega)) (fun j hj => hfz _) hvs (sv_one ss) h1v 9 9 1 cap (by simp [World.shape?, hv]) (by simp [World.shape?, hg, hcs]) (by omega) (by simp [World.frozen?, hv]) (by simp [World.frozen?, hv])).mono ?_
        rintro e w' ⟨rfl, rfl⟩
        refine ⟨⟨_, _, rfl, sl_of hil cr hcm (fun j u hj => ?_) (sv_one _), own⟩, grownBy_trans (grownBy_trans (grownBy_drew w _) (grownBy_setCells g _ _ _)) (grownBy_setCells g _ _ _)⟩
        have dl : ((sv ss).drop i).length = ss.length - i := by rw [List.length_drop, sv_len]
        have s1 : ∀ k, k < cap → ((w.drew.setCells g (0 + (i + 1)) ((sv ss).drop i)).cell? ⟨g, k, none⟩).isSome = true := fun k hk => World.isSome_setCells g _ _ _ _ (hsome k hk)
        rcases ins_get hi hj with ⟨q, r⟩ | ⟨q, r⟩ | ⟨q, r⟩
        · rw [World.cell?_setCells_out g _ _ _ ⟨g, j, none⟩ (fun _ _ => by left; show j < 0 + i; omega), World.cell?_setCells_out g _ _ _ ⟨g, j, none⟩ (fun _ _ => by left; show j < 0 + (i + 1); omega)]
          have := hcell j u r
          rw [Nat.zero_add] at this
          exact this
        · subst q r
          have := World.cell?_setCells_in g [Value.string x] (0 + j) (w.drew.setCells g (0 + (j + 1)) ((sv ss).drop j)) (fun k hk => s1 _ (by simp at hk; omega)) 0 (by simp)
          simp only [Nat.zero_add, Nat.add_zero] at this ⊢
          exact this
        · have jl : j < ss.length + 1 := by have := lt_of_some hj; omega
          rw [World.cell?_setCells_out g _ _ _ ⟨g, j, none⟩ (fun _ _ => by right; show 0 + i + [Value.string x].length ≤ j; simp; omega)]
          have := World.cell?_setCells_in g ((sv ss).drop i) (0 + (i + 1)) w.drew (fun k hk => hsome _ (by omega)) (j - (i + 1)) (by omega)
          rw [show 0 + (i + 1) + (j - (i + 1)) = j by omega] at this
          rw [this]
          rw [← r]
          rw [List.getElem_drop, List.getElem?_eq_getElem (by rw [sv_len]; omega)]
          congr 2
          omega
      · refine (Any2.slices_Insert_string_grow laysI g 0 ss.length cap i vb 0 1 1 (sv ss) [.string x] w il (by decide) hnc (by omega) (by omega) (sv_len ss) rfl hcell hvs (sv_one ss) h1v).mono ?_
        rintro e w' ⟨rfl, rfl⟩
        have g1 := gc (ss.length + 1) cap (by omega)
        have dl : ((sv ss).drop i).length = ss.length - i := by rw [List.length_drop, sv_len]
        have tl : ((sv ss).take i).length = i := by rw [List.length_take, sv_len]; omega
        obtain ⟨CS, hCS⟩ : ∃ CS, CS = ((sv ss).take i).toArray ++ Builtin.zeroCells (Value.string ⟨#[]⟩).cells (ss.length + 1 - i) ++ Builtin.zeroCells (Value.string ⟨#[]⟩).cells (grownCap w (ss.length + 1) cap (renI.t 9) - (ss.length + 1)) := ⟨_, rfl⟩
        rw [← hCS]
        have one : (Value.string ⟨#[]⟩).cells.size = 1 := rfl
        have csz : ss.length + 1 ≤ CS.size := by
          rw [hCS]
          simp only [Array.size_append, List.size_toArray, size_zeroCells, tl, one]
          omega
        have csi : ∀ j u, j < i → (sv ss)[j]? = some u → CS[j]? = some u := fun j u hj hu => by
          rw [hCS, Array.getElem?_append_left (by simp only [Array.size_append, List.size_toArray, size_zeroCells, tl, one]; omega), Array.getElem?_append_left (by simp only [List.size_toArray, tl]; exact hj), List.getElem?_toArray, List.getElem?_take_of_lt hj]
          exact hu
        obtain ⟨W1, hW1⟩ : ∃ W1, W1 = (w.alloc (.cells CS (renI.t 9))).drew := ⟨_, rfl⟩
        rw [← hW1]
        have c1 : ∀ j, W1.cell? ⟨w.heap.size, j, none⟩ = CS[j]? := fun j => by rw [hW1]; exact cell_alloc_new w CS _ j
        have b1 : Below w.heap.size w W1 := by rw [hW1]; exact (allocB w _).drew
        have so : ∀ j, j < ss.length + 1 → (W1.cell? ⟨w.heap.size, j, none⟩).isSome = true := fun j hj => by
          rw [c1, Array.getElem?_eq_getElem (by omega)]; rfl
        have B3 : Below w.heap.size w ((W1.setCells w.heap.size i [Value.string x]).drew.setCells w.heap.size (i + 1) ((sv ss).drop i)) := by
          have q := b1.grown (grownBy_setCells w.heap.size [Value.string x] i W1) b1.size (fun k hk => by injection hk with hk; omega)
          have q2 := q.drew
          exact q2.grown (grownBy_setCells w.heap.size ((sv ss).drop i) (i + 1) _) q2.size (fun k hk => by injection hk with hk; omega)
        refine ⟨⟨_, _, rfl, sl_of hil g1.1 g1.2 (fun j u hj => ?_) (sv_one _), new⟩, ⟨B3.1, B3.2, B3.3, B3.size, fun k hk _ => B3.block k hk⟩⟩
        rcases ins_get hi hj with ⟨q, r⟩ | ⟨q, r⟩ | ⟨q, r⟩
        · rw [World.cell?_setCells_out w.heap.size _ _ _ ⟨w.heap.size, j, none⟩ (fun _ _ => by left; show j < i + 1; omega)]
          show (W1.setCells w.heap.size i [Value.string x]).cell? ⟨w.heap.size, j, none⟩ = some u
          rw [World.cell?_setCells_out w.heap.size _ _ _ ⟨w.heap.size, j, none⟩ (fun _ _ => by left; show j < i; omega), c1]
          exact csi j u q r
        · subst q r
          rw [World.cell?_setCells_out w.heap.size _ _ _ ⟨w.heap.size, j, none⟩ (fun _ _ => by left; show j < j + 1; omega)]
          have := World.cell?_setCells_in w.heap.size [Value.string x] j W1 (fun k hk => so _ (by simp at hk; omega)) 0 (by simp)
          simp only [Nat.add_zero] at this
          exact this
        · have jl : j < ss.length + 1 := by have := lt_of_some hj; omega
          have := World.cell?_setCells_in w.heap.size ((sv ss).drop i) (i + 1) (W1.setCells w.heap.size i [Value.string x]).drew (fun k hk => World.isSome_setCells w.heap.size _ _ _ _ (so _ (by omega))) (j - (i + 1)) (by omega)
          rw [show i + 1 + (j - (i + 1)) = j by omega] at this
          rw [this]
          rw [← r]
          rw [List.getElem_drop, List.getElem?_eq_getElem (by rw [sv_len]; omega)]
          congr 2
          omega

/-- What Delete answers. -/
theorem Delete_any (v : Value) (ss : List ByteArray) (i : Nat) (base : Nat) (w : World) (h : Ow w 9 base v (sv ss)) (hi : i < ss.length) (hn : ss.length ≤ 100000) :
    Calls Try.prog 69 #[v, .int .i64 (i : Nat), .int .i64 ((i + 1 : Nat) : Int)] w fun e w' => InsP w w' v e (ss.length - 1) (sv (delAt ss i)) := by
  rcases h.row.2 with ⟨rfl, h0⟩ | ⟨g, cap, cur, rfl, hb, hg, hnc, hcm, hcs, ht⟩
  · rw [sv_len] at h0; omega
  · rw [sv_len] at hnc ht ⊢
    rw [Nat.mul_one] at hcs ht
    have hcell : ∀ j, j < ss.length → w.cell? ⟨g, 0 + j, none⟩ = some (.string (kAt ss j)) := fun j hj => by
      rw [Nat.zero_add, cell_of_row _ _ _ _ _ _ hg]
      have q := sv_get hj
      rw [← ht, List.getElem?_take_of_lt hj, Array.getElem?_toList] at q
      exact q
    have hfz : ∀ j, w.frozen? ⟨g, j, none⟩ = false := fun j => frozen_of_row _ _ _ _ _ hg
    refine (Any.slices_Delete_string_cells laysD g 0 ss.length cap i (i + 1) (kAt ss) w hnc (by unfold maxLen at hcm; omega) (by omega) (by omega) hcell (fun j hj => hfz _)).mono ?_
    rintro e w' ⟨rfl, q, rfl⟩
    have e1 : ss.length - (i + 1 - i) = ss.length - 1 := by omega
    rw [e1]
    refine ⟨⟨_, _, rfl, sl_of (by rw [sv_len]; exact delAt_len hi) (by omega) hcm (fun j u hj => ?_) (sv_one _), fun y hy => by injection hy with hy; subst hy; exact Or.inl rfl⟩, grownBy_trans (grownBy_drewN w q _) (grownBy_setCells g _ _ _)⟩
    have jl : j < ss.length - 1 := by have := lt_of_some hj; rw [sv_len, delAt_len hi] at this; exact this
    have em : (Lib.strsOf (kAt ss) ss.length).map Go.Proofs.encStr = sv ss := by
      apply List.ext_getElem?
      intro t
      rcases Nat.lt_or_ge t ss.length with q | q
      · rw [sv_get q]
        simp [Lib.strsOf, q, Go.Proofs.encStr, kAt]
      · rw [List.getElem?_eq_none (by simp [Lib.strsOf]; exact q), List.getElem?_eq_none (by rw [sv_len]; exact q)]
    obtain ⟨L, hL⟩ : ∃ L, L = ((Lib.strsOf (kAt ss) ss.length).take i ++ (Lib.strsOf (kAt ss) ss.length).drop (i + 1) ++ List.replicate (i + 1 - i) []).map Go.Proofs.encStr := ⟨_, rfl⟩
    rw [← hL]
    have hL2 : L = sv (delAt ss i) ++ (List.replicate (i + 1 - i) []).map Go.Proofs.encStr := by
      rw [hL, List.map_append, List.map_append, List.map_take, List.map_drop, em]
      unfold delAt
      rw [sv_app, sv_take, sv_drop]
    have ll : L.length = ss.length := by
      rw [hL2, List.length_append, sv_len, delAt_len hi]
      simp
      omega
    have := World.cell?_setCells_in g L 0 (w.drewN q) (fun k hk => by
      rw [Nat.zero_add]
      show (w.cell? ⟨g, k, none⟩).isSome = true
      have := hcell k (by omega)
      rw [Nat.zero_add] at this
      rw [this]; rfl) j (by omega)
    rw [Nat.zero_add] at this
    rw [this, ← hj]
    have e2 : L[j]? = (sv (delAt ss i))[j]? := by rw [hL2, List.getElem?_append_left (by rw [sv_len, delAt_len hi]; exact jl)]
    rw [← e2, List.getElem?_eq_getElem]

end Go.Proofs.Ythdjghmipepppaa

namespace Go.Proofs.Ythdjghmipepppaa
open Go.Shelf Go.RowKit
set_option linter.unusedVariables false
set_option linter.unusedSimpArgs false

def renB : Ren := ⟨fun | 26 => 68 | 33 => 87 | 34 => 88 | 38 => 97 | n => n, fun | 9 => 9 | 24 => 52 | 40 => 146 | n => n, fun n => n⟩
theorem laysB : Lays2.n26 Try.prog renB :=
  { mixed := by kernel_rfl
    f26 := by kernel_rfl
    f33 := by kernel_rfl
    f34 := by kernel_rfl
    f38 := by kernel_rfl
    t0 := by kernel_rfl
    a0 := fun _ => by kernel_rfl
    z0 := fun _ => by kernel_rfl
    v0 := fun _ => by kernel_rfl
    t3 := by kernel_rfl
    a3 := fun _ => by kernel_rfl
    z3 := fun _ => by kernel_rfl
    v3 := fun _ => by kernel_rfl
    t4 := by kernel_rfl
    a4 := fun _ => by kernel_rfl
    z4 := fun _ => by kernel_rfl
    v4 := fun _ => by kernel_rfl
    t9 := by kernel_rfl
    a9 := fun _ => by kernel_rfl
    z9 := fun _ => by kernel_rfl
    v9 := fun _ => by kernel_rfl
    t24 := by kernel_rfl
    a24 := fun _ => by kernel_rfl
    z24 := fun _ => by kernel_rfl
    v24 := fun _ => by kernel_rfl
    t40 := by kernel_rfl
    a40 := fun _ => by kernel_rfl
    z40 := fun _ => by kernel_rfl
    v40 := fun _ => by kernel_rfl }

theorem BS_any (a : Option Addr) (n cap : Nat) (ks : List ByteArray) (x : ByteArray) (w : World) (h : Sl w a n cap (sv ks)) (R : Rise ks) (hn : n ≤ 100000) :
    Calls Try.prog 68 #[.slice a n cap, .string x] w fun e w' => e = .returned (.tuple #[.int .i64 (posS ks x : Nat), .bool (fnd ks x)]) ∧ Below w.heap.size w w' := by
  have hl := h.slen
  rcases Nat.eq_zero_or_pos n with q | q
  · subst q
    obtain rfl : ks = [] := List.length_eq_zero_iff.1 hl
    refine (Any2.slices_BinarySearch_string_empty laysB a cap x w).mono ?_
    rintro e w' ⟨rfl, rfl⟩
    exact ⟨rfl, Below.refl _ _⟩
  · obtain ⟨b, o, rfl, _⟩ := h.at q
    obtain ⟨Sx, hS⟩ : ∃ Sx : Nat → ByteArray, Sx = fun t => if t < n then kAt ks t else x := ⟨_, rfl⟩
    have s1 : ∀ t, t < n → Sx t = kAt ks t := fun t ht => by rw [hS]; simp [ht]
    have s2 : ∀ t, n ≤ t → Sx t = x := fun t ht => by rw [hS]; simp; omega
    have pl := pos_le ks x
    have E : Lib.bsGo (fun t => Op.bytesLess (Sx t).toList x.toList) n 0 n = posS ks x := by
      refine Lib.bsGo_spec _ (posS ks x) (fun t ht => ?_) (fun t ht => ?_) n 0 n (by omega) (Nat.zero_le _) (by omega)
      · rw [s1 t (by omega)]; exact pos_lt ht
      · rcases Nat.lt_or_ge t n with r | r
        · rw [s1 t r]; exact pos_gt R ht (by omega)
        · rw [s2 t r]; exact ltS_irrefl x
    refine (Any2.slices_BinarySearch_string laysB b o n cap Sx x w (by omega) (fun j hj => by rw [s1 j hj]; exact h.str hj)).mono ?_
    rintro e w' ⟨rfl, k, rfl⟩
    refine ⟨?_, drewB w k⟩
    rw [E]
    have e2 : decide (posS ks x < n ∧ Sx (posS ks x) = x) = fnd ks x := by
      unfold fnd
      rw [hl]
      by_cases c : posS ks x < n
      · rw [s1 _ c]
      · rw [decide_eq_false (by omega), decide_eq_false (by omega)]
    rw [e2]

set_option maxHeartbeats 1000000 in
theorem Find_leaf (v : Value) (p : Pg) (key : ByteArray) (w : World) (h : Pv w v p) (f : Bd p) (R : Rise p.keys) (hl : p.leaf = true) :
    Calls Try.prog 34 #[v, .string key] w fun e w' => e = .returned (.tuple #[.int .i64 (posS p.keys key : Nat), .bool (fnd p.keys key)]) ∧ Below w.heap.size w w' := by
  obtain ⟨ka, kn, kc, va, vn, vc, ia, im, ic, rfl, h1, h2, h3⟩ := h.ex
  obtain ⟨lf, ks, vs, is⟩ := p
  simp only at h1 h2 h3 hl R ⊢
  subst hl
  have b1 := f.keys
  have l1 := h1.slen
  simp only at b1
  have K : Hid _ := fun o => BS_any ka kn kc ks key (w.alloc o) (h1.below (allocB w o)) R (by omega)
  generalize posS ks key = P at *
  generalize fnd ks key = F at *
  clear h h1 h2 h3 f R
  go_enter Try.func34, Try.ntmps34
  go_wp2_with (go_at_call 68; refine Calls.mono (K.out _) ?_; rintro e w1 ⟨rfl, b1⟩)
  go_ret2
  exact ⟨rfl, nextB (allocB w _) b1⟩
theorem Find_branch (v : Value) (p : Pg) (key : ByteArray) (w : World) (h : Pv w v p) (hl : p.leaf = false) :
    Calls Try.prog 34 #[v, .string key] w fun e w' => e = .returned (.tuple #[.int .i64 0, .bool false]) ∧ Below w.heap.size w w' := by
  obtain ⟨ka, kn, kc, va, vn, vc, ia, im, ic, rfl, h1, h2, h3⟩ := h.ex
  obtain ⟨lf, ks, vs, is⟩ := p
  simp only at hl ⊢
  subst hl
  clear h h1 h2 h3
  go_enter Try.func34, Try.ntmps34
  go_wp2
  go_ret2
  exact ⟨rfl, allocB w _⟩
theorem Kid_leaf (v : Value) (p : Pg) (key : ByteArray) (w : World) (h : Pv w v p) (hl : p.leaf = true) :
    Calls Try.prog 67 #[v, .string key] w fun e w' => e = .returned (.int .i64 0) ∧ Below w.heap.size w w' := by
  obtain ⟨ka, kn, kc, va, vn, vc, ia, im, ic, rfl, h1, h2, h3⟩ := h.ex
  obtain ⟨lf, ks, vs, is⟩ := p
  simp only at hl ⊢
  subst hl
  clear h h1 h2 h3
  go_enter Try.func67, Try.ntmps67
  go_wp2
  go_ret
  exact ⟨rfl, allocB w _⟩
set_option maxHeartbeats 1000000 in
theorem Kid_branch (v : Value) (p : Pg) (key : ByteArray) (w : World) (h : Pv w v p) (f : Bd p) (R : Rise p.keys) (hl : p.leaf = false) :
    Calls Try.prog 67 #[v, .string key] w fun e w' => e = .returned (.int .i64 (plS p.keys key : Nat)) ∧ Below w.heap.size w w' := by
  obtain ⟨ka, kn, kc, va, vn, vc, ia, im, ic, rfl, h1, h2, h3⟩ := h.ex
  obtain ⟨lf, ks, vs, is⟩ := p
  simp only at h1 h2 h3 hl R ⊢
  subst hl
  have b1 := f.keys
  have l1 := h1.slen
  simp only at b1
  have K : Hid _ := fun o => BS_any ka kn kc ks key (w.alloc o) (h1.below (allocB w o)) R (by omega)
  have PL := pos_le ks key
  have E : Hid (plS ks key = posS ks key + (if fnd ks key then 1 else 0)) := rfl
  generalize plS ks key = L at *
  generalize posS ks key = P at *
  generalize fnd ks key = F at *
  have n1 : P ≤ 90000 := by omega
  clear h h1 h2 h3 f R PL
  cases F with
  | true =>
    go_enter Try.func67, Try.ntmps67
    go_wp2_with (go_at_call 68; refine Calls.mono (K.out _) ?_; rintro e w1 ⟨rfl, b1⟩)
    go_ret
    exact ⟨retV (by rw [E.out]; simp), nextB (allocB w _) b1⟩
  | false =>
    go_enter Try.func67, Try.ntmps67
    go_wp2_with (go_at_call 68; refine Calls.mono (K.out _) ?_; rintro e w1 ⟨rfl, b1⟩)
    go_ret
    exact ⟨retV (by rw [E.out]; simp), nextB (allocB w _) b1⟩

end Go.Proofs.Ythdjghmipepppaa

namespace Go.Proofs.Ythdjghmipepppaa
open Go.RowKit
set_option linter.unusedVariables false
set_option linter.unusedSimpArgs false

theorem Cp.far {w : World} {bb rr : Nat} {c0 c1 c2 c3 z0 z1 z2 z3 : Value} {W W' : World} {r : Option Nat} (h : Cp w bb rr c0 c1 c2 c3 z0 z1 z2 z3 W) (g : W.grownBy W' r) (hr : ∀ k, r = some k → w.heap.size ≤ k ∧ k ≠ bb ∧ k ≠ rr) : Cp w bb rr c0 c1 c2 c3 z0 z1 z2 z3 W' := by
  have e1 : some bb ≠ r := fun e => (hr bb e.symm).2.1 rfl
  have e2 : some rr ≠ r := fun e => (hr rr e.symm).2.2 rfl
  exact ⟨h.bel.grown g h.bel.size (fun k hk => (hr k hk).1), h.box.grown g e1, h.res.grown g e2, fun o => by rw [World.frozen?_of_block (w := W) (a := ⟨rr, o, none⟩) (g.block rr h.res.lt e2)]; exact h.fz o⟩
/-- One of a row's own cells is turned. -/
theorem Ow.set {w : World} {base g n c i : Nat} {ss : List ByteArray} {x : ByteArray} (h : Ow w 9 base (.slice (some ⟨g, 0, none⟩) n c) (sv ss)) (hn : ss.length = n) (hi : i < n) : Sl (w.setCell ⟨g, i, none⟩ (.string x)) (some ⟨g, 0, none⟩) n c (sv (setAt ss i x)) := by
  obtain ⟨a, cap, e, s, _, _⟩ := h.sl
  injection e with e1 e2 e3
  subst e1 e3
  rw [sv_len, hn] at s
  refine ⟨by rw [sv_len, setAt_len (by omega)]; exact hn, s.fits, s.max, fun e => by simp at e, ⟨g, 0, fun _ => rfl, fun j u hj => ?_⟩, sv_one _⟩
  have jl := lt_of_some hj
  rw [sv_len, setAt_len (by omega)] at jl
  rw [Nat.zero_add]
  have base' := s.str (i := j) (by omega)
  rw [Nat.zero_add] at base'
  by_cases c : j = i
  · subst c
    rw [World.cell?_setCell_same _ _ _ base', ← hj]
    rw [sv_get (by rw [setAt_len (by omega)]; omega)]
    simp only [Option.some.injEq, Value.string.injEq]
    simp [setAt, List.getD, List.getElem?_append_right, List.length_take, Nat.min_eq_left (show j ≤ ss.length by omega)]
  · have ne : (⟨g, i, none⟩ : Addr) ≠ ⟨g, j, none⟩ := fun k => by injection k with _ k; exact c k.symm
    have e4 : (sv (setAt ss i x))[j]? = (sv ss)[j]? := by
      have ml : min i ss.length = i := by omega
      unfold setAt sv
      rw [List.map_append, List.map_cons, List.map_take, List.map_drop]
      rcases Nat.lt_or_ge j i with q | q
      · rw [List.getElem?_append_left (by simp; omega), List.getElem?_take_of_lt q]
      · rw [List.getElem?_append_right (by simp; omega)]
        simp only [List.length_take, List.length_map, ml]
        rw [show j - i = (j - i - 1) + 1 by omega, List.getElem?_cons_succ, List.getElem?_drop]
        congr 1
        omega
    rw [e4, sv_get (by omega)] at hj
    first | rw [World.cell?_setCell_other _ _ _ _ ne] | rw [World.cell?_setCell_other _ _ _ _ ne.symm]
    rw [base']
    exact hj

set_option maxRecDepth 100000 in
set_option maxHeartbeats 8000000 in
theorem Put_leaf (v : Value) (p : Pg) (key val : ByteArray) (w : World) (h : Pv w v p) (f : Fit p) (R : Rise p.keys) (hl : p.leaf = true) :
    Calls Try.prog 31 #[v, .string key, .string val] w fun e w' => NewP w w' e (putP p key val) := by
  obtain ⟨ka, kn, kc, va, vn, vc, ia, im, ic, rfl, h1, h2, h3⟩ := h.ex
  obtain ⟨lf, ks, vs, is⟩ := p
  simp only at h1 h2 h3 hl R
  subst hl
  have l1 := h1.slen
  have l2 := h2.slen
  have b1 := f.keys
  have ev := f.even rfl
  simp only at b1 ev
  have n1 : kn ≤ 2000 := by omega
  have HH : Hid _ := And.intro h1 (And.intro h2 h3)
  have H : Hid _ := h
  have F : Hid _ := f
  have RR : Hid _ := R
  have LL : Hid (ks.length = kn ∧ vs.length = kn) := by show _ ∧ _; omega
  have C0 : Hid (Cp w w.heap.size (w.heap.size + 1) (.bool true) (.slice ka kn kc) (.slice va vn vc) (.slice ia im ic) (.bool false) (.slice none 0 0) (.slice none 0 0) (.slice none 0 0) ((w.alloc (.cells #[.bool true, .slice ka kn kc, .slice va vn vc, .slice ia im ic] 54)).alloc (.cells #[.bool false, (.slice none 0 0), (.slice none 0 0), (.slice none 0 0)] 54))) := by
    refine ⟨nextB (allocB w _) (allocB _ _), (B4.new w _ _ _ _ _).below (allocB _ _), ?_, fun o => by simp⟩
    have q := B4.new (w.alloc (.cells #[.bool true, .slice ka kn kc, .slice va vn vc, .slice ia im ic] 54)) (.bool false) (.slice none 0 0) (.slice none 0 0) (.slice none 0 0) 54
    rw [World.size_alloc] at q
    exact q
  have PP : Hid (fnd ks key = true → posS ks key < kn) := fun e => by have := (fnd_true e).1; omega
  have PQ : Hid (posS ks key ≤ kn) := by have := pos_le ks key; show _ ≤ _; omega
  have PY : Hid (fnd ks key = true → putP ⟨true, ks, vs, is⟩ key val = ⟨true, ks, setAt vs (posS ks key) val, []⟩) := fun e => putP_yes e
  have PN : Hid (fnd ks key = false → putP ⟨true, ks, vs, is⟩ key val = ⟨true, insAt ks (posS ks key) key, insAt vs (posS ks key) val, []⟩) := fun e => putP_no e
  clear h f h1 h2 h3 l1 l2 ev R b1
  go_enter Try.func31, Try.ntmps31
  go_upto_region 3 with fail
  generalize ((w.alloc (.cells #[.bool true, .slice ka kn kc, .slice va vn vc, .slice ia im ic] 54)).alloc (.cells #[.bool false, (.slice none 0 0), (.slice none 0 0), (.slice none 0 0)] 54)) = W0 at *
  have S0 : W0.drew.cell? ⟨w.heap.size, 0, none⟩ = some (.bool true) ∧ W0.drew.cell? ⟨w.heap.size, 1, none⟩ = some (.slice ka kn kc) ∧ W0.drew.cell? ⟨w.heap.size, 2, none⟩ = some (.slice va vn vc) ∧ W0.drew.cell? ⟨w.heap.size, 3, none⟩ = some (.slice ia im ic) := ⟨C0.out.box.a0, C0.out.box.a1, C0.out.box.a2, C0.out.box.a3⟩
  have Q0 : Hid _ := C0.out.drew
  have K1 : Hid _ := cloneS_any ka kn kc (sv ks) W0.drew (HH.out.1.below Q0.out.bel) (by omega)
  have K2 : Hid _ := fun (W : World) (b : Below w.heap.size w W) => values_any _ ⟨true, ks, vs, is⟩ W (H.out.below b) F.out rfl
  go_region_held3 (fun W => W.cell? ⟨w.heap.size, 0, none⟩ = some (.bool true) ∧ W.cell? ⟨w.heap.size, 1, none⟩ = some (.slice ka kn kc) ∧ W.cell? ⟨w.heap.size, 2, none⟩ = some (.slice va vn vc) ∧ W.cell? ⟨w.heap.size, 3, none⟩ = some (.slice ia im ic)) (first | with_reducible assumption | (go_keep; done)) (first | (go_at_call 63; refine Calls.mono K1.out ?_; rintro e w5 ⟨⟨v5, rfl, o5⟩, b5⟩; have Q5 : Hid _ := Q0.out.next b5; have S5 := And.intro Q5.out.box.a0 (And.intro Q5.out.box.a1 (And.intro Q5.out.box.a2 Q5.out.box.a3)); clear K1) | (go_at_call 47; refine Calls.mono (K2.out _ Q5.out.bel) ?_; rintro e w6 ⟨⟨v6, rfl, o6⟩, b6⟩; have Q6 : Hid _ := Q5.out.next b6; have S6 := And.intro Q6.out.box.a0 (And.intro Q6.out.box.a1 (And.intro Q6.out.box.a2 Q6.out.box.a3))))
  have O5 : Hid _ := And.intro o5 b5
  have O6 : Hid _ := And.intro o6 b6
  obtain ⟨x0, x1, x2, x3⟩ := S6
  have KF : Hid _ := Find_leaf _ ⟨true, ks, vs, is⟩ key w6 (H.out.below Q6.out.bel) F.out.bd RR.out rfl
  have LR := Q0.out.res.lt
  clear S0 S5 o5 b5 o6 b6 K2
  simp only at KF
  cases fd : fnd ks key with
  | true =>
    have Pp := PP.out fd
    have EQ : Hid _ := PY.out fd
    rw [fd] at KF
    obtain ⟨g6, c6, rfl⟩ : ∃ g c, v6 = .slice (some ⟨g, 0, none⟩) kn c := by
      obtain ⟨a, c, e, s, _, hh⟩ := O6.out.1.sl
      have q := LL.out
      rw [sv_len, q.2] at e s
      rcases hh with r | ⟨g, r⟩
      · rw [r] at s; have := s.none_nil; omega
      · exact ⟨g, c, by rw [e, r]⟩
    have FD : Hid _ := fd
    clear fd PP PY PN
    generalize posS ks key = P at *
    have Pi : (P : Int) < (kn : Int) := by omega
    go_upto_region 6 with (go_at_call 34; refine Calls.mono KF.out ?_; rintro e w7 ⟨rfl, b7⟩)
    have O7 : Hid _ := O6.out.1.below b7
    have e7 : w7.cell? ⟨g6, P, none⟩ = some (.string (kAt vs P)) := by
      obtain ⟨a, c, e, s, _, _⟩ := O7.out.sl
      injection e with e1 e2 e3
      rw [← e1] at s
      have q := LL.out
      rw [sv_len, q.2] at s
      have := s.str (i := P) (by omega)
      rwa [Nat.zero_add] at this
    have f7 : w7.frozen? ⟨g6, P, none⟩ = false := by
      rcases O7.out.row.2 with ⟨e, _⟩ | ⟨g, cap, cur, e, hb, hg, _⟩
      · cases e
      · injection e with e1 e2 e3
        injection e1 with e1
        injection e1 with e1
        subst e1
        exact frozen_of_row _ _ _ _ _ hg
    have G6 := (O6.out.1.lt g6 rfl).1
    have B5 := O5.out.2.size
    have B6 := O6.out.2.size
    have L5 : Hid _ := O5.out.1.lt
    have W8g : Hid (w7.grownBy (w7.setCell ⟨g6, P, none⟩ (.string val)) (some g6)) := grownBy_setCell _ _ _ _
    have Q8 : Hid _ := (Q6.out.next b7).far W8g.out (fun k hk => by have e := Option.some.inj hk; subst e; exact ⟨by omega, by omega, by omega⟩)
    have SV : Hid _ := O7.out.set (x := val) LL.out.2 (i := P) Pp
    obtain ⟨a5, c5, rfl, s5, z5, _⟩ := O5.out.1.sl
    have SK : Hid (Sl (w7.setCell ⟨g6, P, none⟩ (.string val)) a5 (sv ks).length c5 (sv ks)) := ((s5.below O6.out.2).below b7).grown W8g.out (fun _ x hx e => by have := (z5 x hx).2; have := Option.some.inj e; omega)
    have r0 := Q8.out.res.a0
    have r1 := Q8.out.res.a1
    have r2 := Q8.out.res.a2
    have r3 := Q8.out.res.a3
    have rz := Q8.out.fz
    go_upto_region 8 with fail
    generalize w7.setCell ⟨g6, P, none⟩ (.string val) = w8 at *
    go_wp2
    rw [EQ.out]
    have X : Hid _ := stored4 Q8.out.res (.bool true) (.slice a5 (sv ks).length c5) (.slice (some ⟨g6, 0, none⟩) kn c6) (.slice none 0 0)
    have P : Hid (Pv ((((w8.setCell ⟨w.heap.size + 1, 0, none⟩ (.bool true)).setCell ⟨w.heap.size + 1, 1, none⟩ (.slice a5 (sv ks).length c5)).setCell ⟨w.heap.size + 1, 2, none⟩ (.slice (some ⟨g6, 0, none⟩) kn c6)).setCell ⟨w.heap.size + 1, 3, none⟩ (.slice none 0 0)) (.agg #[.bool true, .slice a5 (sv ks).length c5, .slice (some ⟨g6, 0, none⟩) kn c6, .slice none 0 0]) ⟨true, ks, setAt vs P val, []⟩) := by
      refine Pv.mk' (SK.out.grown X.out.2 (fun _ x hx e => ?_)) (SV.out.grown X.out.2 (fun _ x hx e => ?_)) (Sl.empty _) (fun k hk => by simp at hk)
      · have := (z5 x hx).1; injection e with e; omega
      · injection hx with hx; subst hx; injection e with e; simp only at e; omega
    have B8 : Hid (Below w.heap.size w ((((w8.setCell ⟨w.heap.size + 1, 0, none⟩ (.bool true)).setCell ⟨w.heap.size + 1, 1, none⟩ (.slice a5 (sv ks).length c5)).setCell ⟨w.heap.size + 1, 2, none⟩ (.slice (some ⟨g6, 0, none⟩) kn c6)).setCell ⟨w.heap.size + 1, 3, none⟩ (.slice none 0 0))) := Q8.out.bel.grown X.out.2 Q8.out.bel.size (fun k hk => by injection hk with hk; omega)
    generalize ((((w8.setCell ⟨w.heap.size + 1, 0, none⟩ (.bool true)).setCell ⟨w.heap.size + 1, 1, none⟩ (.slice a5 (sv ks).length c5)).setCell ⟨w.heap.size + 1, 2, none⟩ (.slice (some ⟨g6, 0, none⟩) kn c6)).setCell ⟨w.heap.size + 1, 3, none⟩ (.slice none 0 0)) = W8 at *
    obtain ⟨⟨t0, t1, t2, t3⟩, _⟩ := X.out
    exact bodyPost_ret (v := .agg #[.bool true, .slice a5 (sv ks).length c5, .slice (some ⟨g6, 0, none⟩) kn c6, .slice none 0 0]) (by simp [results, Try.results31, go_sem, t0, t1, t2, t3]) rfl ⟨⟨_, rfl, P.out⟩, B8.out⟩
  | false =>
    have EQ : Hid _ := PN.out fd
    rw [fd] at KF
    have FD : Hid _ := fd
    clear fd PP PY PN
    generalize posS ks key = P at *
    go_upto_region 7 with (go_at_call 34; refine Calls.mono KF.out ?_; rintro e w7 ⟨rfl, b7⟩)
    have G5 : Hid _ := O5.out.1.lt
    have G6 : Hid _ := O6.out.1.lt
    have B5 := O5.out.2.size
    have B6 := O6.out.2.size
    have B7 := b7.size
    have OK : Hid _ := ((O5.out.1.below O6.out.2).below b7).below (allocB w7 (.cells #[.string key] 9))
    have OV : Hid _ := (O6.out.1.below b7).below (allocB w7 (.cells #[.string key] 9))
    have Q7 : Hid _ := (Q6.out.next b7).next (allocB w7 (.cells #[.string key] 9))
    have KI : Hid _ := Insert_any v5 ks P key _ _ OK.out (by have := LL.out; have := PQ.out; omega) (by have := LL.out; omega) w7.heap.size (heap_alloc_new w7 _) (fun e => by have := (G5.out _ e).2; omega)
    go_wp2_with fail
    refine Calls.mono KI.out ?_
    rintro e w8 ⟨⟨a8, c8, rfl, s8, z8⟩, g8⟩
    have Q8 : Hid _ := Q7.out.far g8 (fun k hk => by have := (G5.out k hk).1; exact ⟨by omega, by omega, by omega⟩)
    have OV8 : Hid _ := (OV.out.grown g8 (fun k hk e => by have := (G6.out k hk).1; have := (G5.out k e.symm).2; omega)).below (allocB w8 (.cells #[.string val] 9))
    have Z8 := g8.size
    simp only [World.size_alloc] at Z8
    have KI2 : Hid _ := Insert_any v6 vs P val _ _ OV8.out (by have := LL.out; have := PQ.out; omega) (by have := LL.out; omega) w8.heap.size (heap_alloc_new w8 _) (fun e => by have := (G6.out _ e).2; omega)
    have S8 : Hid _ := s8.below (allocB w8 (.cells #[.string val] 9))
    have Y8 : Hid (∀ x, a8 = some x → (∃ k, v5.ownBlock = some k ∧ x.block = k) ∨ x.block = w7.heap.size + 1) := fun x hx => by
      rcases z8 x hx with q | q
      · exact Or.inl ⟨_, q.symm, rfl⟩
      · rw [World.size_alloc] at q; exact Or.inr q
    have Q9 : Hid _ := Q8.out.next (allocB w8 (.cells #[.string val] 9))
    clear KI KF s8 z8 g8
    go_wp2_with fail
    refine Calls.mono KI2.out ?_
    rintro e w9 ⟨⟨a9, c9, rfl, s9, z9⟩, g9⟩
    have Q10 : Hid _ := Q9.out.far g9 (fun k hk => by have := (G6.out k hk).1; exact ⟨by omega, by omega, by omega⟩)
    have S9 : Hid _ := s9
    have K9 : Hid _ := S8.out.grown g9 (fun _ x hx e => by
      have q := G6.out _ e.symm
      rcases Y8.out x hx with ⟨k, hk, r⟩ | r
      · have := (G5.out k hk).2; omega
      · omega)
    have Y9 : Hid (∀ x, a9 = some x → (∃ k, v6.ownBlock = some k ∧ x.block = k) ∨ w7.heap.size ≤ x.block) := fun x hx => by
      rcases z9 x hx with q | q
      · exact Or.inl ⟨_, q.symm, rfl⟩
      · rw [World.size_alloc] at q; exact Or.inr (by omega)
    clear s9 z9 g9
    generalize ks.length + 1 = n8 at *
    generalize vs.length + 1 = n9 at *
    have r0 := Q10.out.res.a0
    have r1 := Q10.out.res.a1
    have r2 := Q10.out.res.a2
    have r3 := Q10.out.res.a3
    have rz := Q10.out.fz
    go_wp2
    rw [EQ.out]
    have X : Hid _ := stored4 Q10.out.res (.bool true) (.slice a8 n8 c8) (.slice a9 n9 c9) (.slice none 0 0)
    have P : Hid (Pv ((((w9.setCell ⟨w.heap.size + 1, 0, none⟩ (.bool true)).setCell ⟨w.heap.size + 1, 1, none⟩ (.slice a8 n8 c8)).setCell ⟨w.heap.size + 1, 2, none⟩ (.slice a9 n9 c9)).setCell ⟨w.heap.size + 1, 3, none⟩ (.slice none 0 0)) (.agg #[.bool true, .slice a8 n8 c8, .slice a9 n9 c9, .slice none 0 0]) ⟨true, insAt ks P key, insAt vs P val, []⟩) := by
      refine Pv.mk' (K9.out.grown X.out.2 (fun _ x hx e => ?_)) (S9.out.grown X.out.2 (fun _ x hx e => ?_)) (Sl.empty _) (fun k hk => by simp at hk)
      · injection e with e
        rcases Y8.out x hx with ⟨k, hk, r⟩ | r
        · have := (G5.out k hk).1; omega
        · omega
      · injection e with e
        rcases Y9.out x hx with ⟨k, hk, r⟩ | r
        · have := (G6.out k hk).1; omega
        · omega
    have B8 : Hid (Below w.heap.size w ((((w9.setCell ⟨w.heap.size + 1, 0, none⟩ (.bool true)).setCell ⟨w.heap.size + 1, 1, none⟩ (.slice a8 n8 c8)).setCell ⟨w.heap.size + 1, 2, none⟩ (.slice a9 n9 c9)).setCell ⟨w.heap.size + 1, 3, none⟩ (.slice none 0 0))) := Q10.out.bel.grown X.out.2 Q10.out.bel.size (fun k hk => by injection hk with hk; omega)
    generalize ((((w9.setCell ⟨w.heap.size + 1, 0, none⟩ (.bool true)).setCell ⟨w.heap.size + 1, 1, none⟩ (.slice a8 n8 c8)).setCell ⟨w.heap.size + 1, 2, none⟩ (.slice a9 n9 c9)).setCell ⟨w.heap.size + 1, 3, none⟩ (.slice none 0 0)) = W8 at *
    obtain ⟨⟨t0, t1, t2, t3⟩, _⟩ := X.out
    exact bodyPost_ret (v := .agg #[.bool true, .slice a8 n8 c8, .slice a9 n9 c9, .slice none 0 0]) (by simp [results, Try.results31, go_sem, t0, t1, t2, t3]) rfl ⟨⟨_, rfl, P.out⟩, B8.out⟩

end Go.Proofs.Ythdjghmipepppaa

namespace Go.Proofs.Ythdjghmipepppaa
open Go.RowKit
set_option linter.unusedVariables false
set_option linter.unusedSimpArgs false

theorem Pv.out {w w' : World} {v : Value} {p : Pg} {r : Nat} (h : Pv w v p) (g : w.grownBy w' (some r)) (o : Off v r) : Pv w' v p := by
  obtain ⟨ka, kn, kc, va, vn, vc, ia, im, ic, e, h1, h2, h3⟩ := h.ex
  obtain ⟨o1, o2, o3⟩ := o _ _ _ _ _ _ _ _ _ _ e
  exact ⟨⟨ka, kn, kc, va, vn, vc, ia, im, ic, e, h1.grown g (fun q x hx k => o1 x q hx (Option.some.inj k)), h2.grown g (fun q x hx k => o2 x q hx (Option.some.inj k)), h3.grown g (fun q x hx k => o3 x q hx (Option.some.inj k))⟩, h.kid⟩
/-- What is there twice, in two worlds, one behind the other: its rows lie nowhere that is new between. -/
theorem Pv.off {w : World} {v : Value} {p : Pg} (h : Pv w v p) (r : Nat) (hr : w.heap.size ≤ r) : Off v r := by
  obtain ⟨ka, kn, kc, va, vn, vc, ia, im, ic, e, h1, h2, h3⟩ := h.ex
  intro l a1 m1 c1 a2 m2 c2 a3 m3 c3 e'
  rw [e] at e'
  simp only [Value.agg.injEq, Array.mk.injEq, List.cons.injEq, and_true, Value.slice.injEq] at e'
  obtain ⟨_, ⟨rfl, rfl, rfl⟩, ⟨rfl, rfl, rfl⟩, rfl, rfl, rfl⟩ := e'
  exact ⟨fun x q hx => by have := h1.old q x hx; omega, fun x q hx => by have := h2.old q x hx; omega, fun x q hx => by have := h3.old q x hx; omega⟩

set_option maxRecDepth 100000 in
set_option maxHeartbeats 8000000 in
theorem Put_branch (v : Value) (p : Pg) (key val : ByteArray) (w : World) (h : Pv w v p) (f : Bd p) (hl : p.leaf = false) :
    Calls Try.prog 31 #[v, .string key, .string val] w fun e w' => NewP w w' e p := by
  obtain ⟨ka, kn, kc, va, vn, vc, ia, im, ic, rfl, h1, h2, h3⟩ := h.ex
  obtain ⟨lf, ks, vs, is⟩ := p
  simp only at h1 h2 h3 hl
  subst hl
  have H : Hid _ := h
  have F : Hid _ := f
  have C0 : Hid (Cp w w.heap.size (w.heap.size + 1) (.bool false) (.slice ka kn kc) (.slice va vn vc) (.slice ia im ic) (.bool false) (.slice none 0 0) (.slice none 0 0) (.slice none 0 0) ((w.alloc (.cells #[.bool false, .slice ka kn kc, .slice va vn vc, .slice ia im ic] 54)).alloc (.cells #[.bool false, (.slice none 0 0), (.slice none 0 0), (.slice none 0 0)] 54))) := by
    refine ⟨nextB (allocB w _) (allocB _ _), (B4.new w _ _ _ _ _).below (allocB _ _), ?_, fun o => by simp⟩
    have q := B4.new (w.alloc (.cells #[.bool false, .slice ka kn kc, .slice va vn vc, .slice ia im ic] 54)) (.bool false) (.slice none 0 0) (.slice none 0 0) (.slice none 0 0) 54
    rw [World.size_alloc] at q
    exact q
  have KC : Hid _ := fun (W : World) (b : Below w.heap.size w W) => copied_off _ ⟨false, ks, vs, is⟩ W (H.out.below b) F.out
  clear h f h1 h2 h3
  go_enter Try.func31, Try.ntmps31
  go_upto_region 2 with fail
  generalize ((w.alloc (.cells #[.bool false, .slice ka kn kc, .slice va vn vc, .slice ia im ic] 54)).alloc (.cells #[.bool false, (.slice none 0 0), (.slice none 0 0), (.slice none 0 0)] 54)) = W0 at *
  have x0 := C0.out.box.a0
  have x1 := C0.out.box.a1
  have x2 := C0.out.box.a2
  have x3 := C0.out.box.a3
  have LR := C0.out.res.lt
  go_wp2_with fail
  refine Calls.mono (KC.out W0 C0.out.bel) ?_
  rintro e w5 ⟨v5, rfl, pv, of, b5⟩
  obtain ⟨a1, m1, c1, a2, m2, c2, a3, m3, c3, rfl, _, _, _⟩ := pv.ex
  have PV : Hid _ := pv
  have Q5 : Hid _ := C0.out.next b5
  have NB : Hid _ := of (w.heap.size + 1) LR
  clear pv of
  have r0 := Q5.out.res.a0
  have r1 := Q5.out.res.a1
  have r2 := Q5.out.res.a2
  have r3 := Q5.out.res.a3
  have rz := Q5.out.fz
  try simp only at PV
  go_wp2
  have X : Hid _ := stored4 Q5.out.res (.bool false) (.slice a1 m1 c1) (.slice a2 m2 c2) (.slice a3 m3 c3)
  have P : Hid (Pv ((((w5.setCell ⟨w.heap.size + 1, 0, none⟩ (.bool false)).setCell ⟨w.heap.size + 1, 1, none⟩ (.slice a1 m1 c1)).setCell ⟨w.heap.size + 1, 2, none⟩ (.slice a2 m2 c2)).setCell ⟨w.heap.size + 1, 3, none⟩ (.slice a3 m3 c3)) (.agg #[.bool false, .slice a1 m1 c1, .slice a2 m2 c2, .slice a3 m3 c3]) ⟨false, ks, vs, is⟩) := PV.out.out X.out.2 NB.out
  have B8 : Hid (Below w.heap.size w ((((w5.setCell ⟨w.heap.size + 1, 0, none⟩ (.bool false)).setCell ⟨w.heap.size + 1, 1, none⟩ (.slice a1 m1 c1)).setCell ⟨w.heap.size + 1, 2, none⟩ (.slice a2 m2 c2)).setCell ⟨w.heap.size + 1, 3, none⟩ (.slice a3 m3 c3))) := Q5.out.bel.grown X.out.2 Q5.out.bel.size (fun k hk => by injection hk with hk; omega)
  generalize ((((w5.setCell ⟨w.heap.size + 1, 0, none⟩ (.bool false)).setCell ⟨w.heap.size + 1, 1, none⟩ (.slice a1 m1 c1)).setCell ⟨w.heap.size + 1, 2, none⟩ (.slice a2 m2 c2)).setCell ⟨w.heap.size + 1, 3, none⟩ (.slice a3 m3 c3)) = W8 at *
  obtain ⟨⟨t0, t1, t2, t3⟩, _⟩ := X.out
  exact bodyPost_ret (v := .agg #[.bool false, .slice a1 m1 c1, .slice a2 m2 c2, .slice a3 m3 c3]) (by simp [results, Try.results31, go_sem, t0, t1, t2, t3]) rfl ⟨⟨_, rfl, P.out⟩, B8.out⟩

set_option maxRecDepth 100000 in
set_option maxHeartbeats 8000000 in
theorem Drop_none (v : Value) (p : Pg) (key : ByteArray) (w : World) (h : Pv w v p) (f : Bd p) (KF : ∀ W, Below w.heap.size w W → Calls Try.prog 34 #[v, .string key] W fun e w' => (∃ k : Nat, e = .returned (.tuple #[.int .i64 (k : Nat), .bool false])) ∧ Below W.heap.size W w') :
    Calls Try.prog 35 #[v, .string key] w fun e w' => NewP w w' e p := by
  obtain ⟨ka, kn, kc, va, vn, vc, ia, im, ic, rfl, h1, h2, h3⟩ := h.ex
  obtain ⟨lf, ks, vs, is⟩ := p
  simp only at h1 h2 h3 h KF
  have H : Hid _ := h
  have F : Hid _ := f
  have KFH : Hid _ := KF
  have C0 : Hid (Cp w w.heap.size (w.heap.size + 1) (.bool lf) (.slice ka kn kc) (.slice va vn vc) (.slice ia im ic) (.bool false) (.slice none 0 0) (.slice none 0 0) (.slice none 0 0) ((w.alloc (.cells #[.bool lf, .slice ka kn kc, .slice va vn vc, .slice ia im ic] 54)).alloc (.cells #[.bool false, (.slice none 0 0), (.slice none 0 0), (.slice none 0 0)] 54))) := by
    refine ⟨nextB (allocB w _) (allocB _ _), (B4.new w _ _ _ _ _).below (allocB _ _), ?_, fun o => by simp⟩
    have q := B4.new (w.alloc (.cells #[.bool lf, .slice ka kn kc, .slice va vn vc, .slice ia im ic] 54)) (.bool false) (.slice none 0 0) (.slice none 0 0) (.slice none 0 0) 54
    rw [World.size_alloc] at q
    exact q
  have KC : Hid _ := fun (W : World) (b : Below w.heap.size w W) => copied_off _ ⟨lf, ks, vs, is⟩ W (H.out.below b) F.out
  try simp only at KC
  clear h f h1 h2 h3 KF
  go_enter Try.func35, Try.ntmps35
  go_upto_region 1 with fail
  generalize ((w.alloc (.cells #[.bool lf, .slice ka kn kc, .slice va vn vc, .slice ia im ic] 54)).alloc (.cells #[.bool false, (.slice none 0 0), (.slice none 0 0), (.slice none 0 0)] 54)) = W0 at *
  have x0 := C0.out.box.a0
  have x1 := C0.out.box.a1
  have x2 := C0.out.box.a2
  have x3 := C0.out.box.a3
  have LR := C0.out.res.lt
  go_wp2_with fail
  refine Calls.mono (KFH.out W0 C0.out.bel) ?_
  rintro e w4 ⟨⟨kk, rfl⟩, b4⟩
  have Q4 : Hid _ := C0.out.next b4
  have y0 := Q4.out.box.a0
  have y1 := Q4.out.box.a1
  have y2 := Q4.out.box.a2
  have y3 := Q4.out.box.a3
  have LR4 := Q4.out.res.lt
  go_wp2_with fail
  refine Calls.mono (KC.out w4 Q4.out.bel) ?_
  rintro e w5 ⟨v5, rfl, pv, of, b5⟩
  obtain ⟨a1, m1, c1, a2, m2, c2, a3, m3, c3, rfl, _, _, _⟩ := pv.ex
  have PV : Hid _ := pv
  have Q5 : Hid _ := Q4.out.next b5
  have NB : Hid _ := of (w.heap.size + 1) LR4
  clear pv of
  have r0 := Q5.out.res.a0
  have r1 := Q5.out.res.a1
  have r2 := Q5.out.res.a2
  have r3 := Q5.out.res.a3
  have rz := Q5.out.fz
  try simp only at PV
  go_wp2
  have X : Hid _ := stored4 Q5.out.res (.bool lf) (.slice a1 m1 c1) (.slice a2 m2 c2) (.slice a3 m3 c3)
  have P : Hid (Pv ((((w5.setCell ⟨w.heap.size + 1, 0, none⟩ (.bool lf)).setCell ⟨w.heap.size + 1, 1, none⟩ (.slice a1 m1 c1)).setCell ⟨w.heap.size + 1, 2, none⟩ (.slice a2 m2 c2)).setCell ⟨w.heap.size + 1, 3, none⟩ (.slice a3 m3 c3)) (.agg #[.bool lf, .slice a1 m1 c1, .slice a2 m2 c2, .slice a3 m3 c3]) ⟨lf, ks, vs, is⟩) := PV.out.out X.out.2 NB.out
  have B8 : Hid (Below w.heap.size w ((((w5.setCell ⟨w.heap.size + 1, 0, none⟩ (.bool lf)).setCell ⟨w.heap.size + 1, 1, none⟩ (.slice a1 m1 c1)).setCell ⟨w.heap.size + 1, 2, none⟩ (.slice a2 m2 c2)).setCell ⟨w.heap.size + 1, 3, none⟩ (.slice a3 m3 c3))) := Q5.out.bel.grown X.out.2 Q5.out.bel.size (fun k hk => by injection hk with hk; omega)
  generalize ((((w5.setCell ⟨w.heap.size + 1, 0, none⟩ (.bool lf)).setCell ⟨w.heap.size + 1, 1, none⟩ (.slice a1 m1 c1)).setCell ⟨w.heap.size + 1, 2, none⟩ (.slice a2 m2 c2)).setCell ⟨w.heap.size + 1, 3, none⟩ (.slice a3 m3 c3)) = W8 at *
  obtain ⟨⟨t0, t1, t2, t3⟩, _⟩ := X.out
  exact bodyPost_ret (v := .agg #[.bool lf, .slice a1 m1 c1, .slice a2 m2 c2, .slice a3 m3 c3]) (by simp [results, Try.results35, go_sem, t0, t1, t2, t3]) rfl ⟨⟨_, rfl, P.out⟩, B8.out⟩

set_option maxRecDepth 100000 in
set_option maxHeartbeats 8000000 in
theorem Drop_yes (v : Value) (p : Pg) (key : ByteArray) (w : World) (h : Pv w v p) (f : Fit p) (R : Rise p.keys) (hl : p.leaf = true) (fd : fnd p.keys key = true) :
    Calls Try.prog 35 #[v, .string key] w fun e w' => NewP w w' e (dropP p key) := by
  rw [dropP_yes fd]
  obtain ⟨ka, kn, kc, va, vn, vc, ia, im, ic, rfl, h1, h2, h3⟩ := h.ex
  obtain ⟨lf, ks, vs, is⟩ := p
  simp only at h1 h2 h3 hl R fd
  subst hl
  have l1 := h1.slen
  have l2 := h2.slen
  have b1 := f.keys
  have ev := f.even rfl
  simp only at b1 ev
  have n1 : kn ≤ 2000 := by omega
  have HH : Hid _ := And.intro h1 (And.intro h2 h3)
  have H : Hid _ := h
  have F : Hid _ := f
  have RR : Hid _ := R
  have LL : Hid (ks.length = kn ∧ vs.length = kn) := by show _ ∧ _; omega
  have C0 : Hid (Cp w w.heap.size (w.heap.size + 1) (.bool true) (.slice ka kn kc) (.slice va vn vc) (.slice ia im ic) (.bool false) (.slice none 0 0) (.slice none 0 0) (.slice none 0 0) ((w.alloc (.cells #[.bool true, .slice ka kn kc, .slice va vn vc, .slice ia im ic] 54)).alloc (.cells #[.bool false, (.slice none 0 0), (.slice none 0 0), (.slice none 0 0)] 54))) := by
    refine ⟨nextB (allocB w _) (allocB _ _), (B4.new w _ _ _ _ _).below (allocB _ _), ?_, fun o => by simp⟩
    have q := B4.new (w.alloc (.cells #[.bool true, .slice ka kn kc, .slice va vn vc, .slice ia im ic] 54)) (.bool false) (.slice none 0 0) (.slice none 0 0) (.slice none 0 0) 54
    rw [World.size_alloc] at q
    exact q
  have Pp : posS ks key < kn := by have := (fnd_true fd).1; omega
  have KF : Hid _ := fun (W : World) (b : Below w.heap.size w W) => Find_leaf _ ⟨true, ks, vs, is⟩ key W (H.out.below b) F.out.bd RR.out rfl
  simp only at KF
  rw [fd] at KF
  have K1 : Hid _ := fun (W : World) (b : Below w.heap.size w W) => cloneS_any ka kn kc (sv ks) W (HH.out.1.below b) (by omega)
  have K2 : Hid _ := fun (W : World) (b : Below w.heap.size w W) => values_any _ ⟨true, ks, vs, is⟩ W (H.out.below b) F.out rfl
  simp only
  generalize posS ks key = P at *
  have Pi : (P : Int) + 1 = ((P + 1 : Nat) : Int) := by omega
  have PiH : Hid _ := Pi
  have Pb : P ≤ 2000 := by omega
  clear h f h1 h2 h3 l1 l2 ev R b1 fd Pi
  go_enter Try.func35, Try.ntmps35
  go_upto_region 1 with fail
  generalize ((w.alloc (.cells #[.bool true, .slice ka kn kc, .slice va vn vc, .slice ia im ic] 54)).alloc (.cells #[.bool false, (.slice none 0 0), (.slice none 0 0), (.slice none 0 0)] 54)) = W0 at *
  have x0 := C0.out.box.a0
  have x1 := C0.out.box.a1
  have x2 := C0.out.box.a2
  have x3 := C0.out.box.a3
  have LR := C0.out.res.lt
  go_wp2_with fail
  refine Calls.mono (KF.out W0 C0.out.bel) ?_
  rintro e w4 ⟨rfl, b4⟩
  have Q4 : Hid _ := C0.out.next b4
  have y0 := Q4.out.box.a0
  have y1 := Q4.out.box.a1
  have y2 := Q4.out.box.a2
  have y3 := Q4.out.box.a3
  go_wp2_with fail
  refine Calls.mono (K1.out w4 Q4.out.bel) ?_
  rintro e w5 ⟨⟨v5, rfl, o5⟩, b5⟩
  have Q5 : Hid _ := Q4.out.next b5
  have LR4 := Q4.out.res.lt
  have L5 : Hid _ := o5.lt
  have KD : Hid _ := Delete_any v5 ks P _ w5 o5 (by have := LL.out; omega) (by have := LL.out; omega)
  rw [← PiH.out] at KD
  have B5 := b5.size
  clear o5
  go_wp2_with fail
  refine Calls.mono KD.out ?_
  rintro e w6 ⟨⟨a6, c6, rfl, s6, z6⟩, g6⟩
  have Q6 : Hid _ := Q5.out.far g6 (fun k hk => by have := (L5.out k hk).1; exact ⟨by omega, by omega, by omega⟩)
  have B6 := g6.size
  have S6 : Hid _ := s6
  have Y6 : Hid (∀ x, a6 = some x → w4.heap.size ≤ x.block) := fun x hx => by
    rcases z6 x hx with q | q
    · have := (L5.out _ q.symm).1; omega
    · omega
  have u0 := Q6.out.box.a0
  have u1 := Q6.out.box.a1
  have u2 := Q6.out.box.a2
  have u3 := Q6.out.box.a3
  clear s6 z6 g6 KD
  generalize ks.length - 1 = n6 at *
  go_wp2_with fail
  refine Calls.mono (K2.out w6 Q6.out.bel) ?_
  rintro e w7 ⟨⟨v7, rfl, o7⟩, b7⟩
  have Q7 : Hid _ := Q6.out.next b7
  have L7 : Hid _ := o7.lt
  have S7 : Hid _ := S6.out.below b7
  have KD : Hid _ := Delete_any v7 vs P _ w7 o7 (by have := LL.out; omega) (by have := LL.out; omega)
  rw [← PiH.out] at KD
  have B7 := b7.size
  have W6 : Hid (∀ x, a6 = some x → 0 < n6 → x.block < w6.heap.size) := fun x hx q => S6.out.old q x hx
  clear o7
  go_wp2_with fail
  refine Calls.mono KD.out ?_
  rintro e w8 ⟨⟨a8, c8, rfl, s8, z8⟩, g8⟩
  have Q8 : Hid _ := Q7.out.far g8 (fun k hk => by have := (L7.out k hk).1; exact ⟨by omega, by omega, by omega⟩)
  have S8 : Hid _ := s8
  have K8 : Hid _ := S7.out.grown g8 (fun q x hx e => by have := W6.out x hx q; have := (L7.out _ e.symm).1; omega)
  have Y8 : Hid (∀ x, a8 = some x → w4.heap.size ≤ x.block) := fun x hx => by
    rcases z8 x hx with q | q
    · have := (L7.out _ q.symm).1; omega
    · omega
  clear s8 z8 g8 KD
  generalize vs.length - 1 = n8 at *
  have r0 := Q8.out.res.a0
  have r1 := Q8.out.res.a1
  have r2 := Q8.out.res.a2
  have r3 := Q8.out.res.a3
  have rz := Q8.out.fz
  go_wp2
  have X : Hid _ := stored4 Q8.out.res (.bool true) (.slice a6 n6 c6) (.slice a8 n8 c8) (.slice none 0 0)
  have P : Hid (Pv ((((w8.setCell ⟨w.heap.size + 1, 0, none⟩ (.bool true)).setCell ⟨w.heap.size + 1, 1, none⟩ (.slice a6 n6 c6)).setCell ⟨w.heap.size + 1, 2, none⟩ (.slice a8 n8 c8)).setCell ⟨w.heap.size + 1, 3, none⟩ (.slice none 0 0)) (.agg #[.bool true, .slice a6 n6 c6, .slice a8 n8 c8, .slice none 0 0]) ⟨true, delAt ks P, delAt vs P, []⟩) := by
    refine Pv.mk' (K8.out.grown X.out.2 (fun _ x hx e => ?_)) (S8.out.grown X.out.2 (fun _ x hx e => ?_)) (Sl.empty _) (fun k hk => by simp at hk)
    · have := Y6.out x hx; injection e with e; omega
    · have := Y8.out x hx; injection e with e; omega
  have B8 : Hid (Below w.heap.size w ((((w8.setCell ⟨w.heap.size + 1, 0, none⟩ (.bool true)).setCell ⟨w.heap.size + 1, 1, none⟩ (.slice a6 n6 c6)).setCell ⟨w.heap.size + 1, 2, none⟩ (.slice a8 n8 c8)).setCell ⟨w.heap.size + 1, 3, none⟩ (.slice none 0 0))) := Q8.out.bel.grown X.out.2 Q8.out.bel.size (fun k hk => by injection hk with hk; omega)
  generalize ((((w8.setCell ⟨w.heap.size + 1, 0, none⟩ (.bool true)).setCell ⟨w.heap.size + 1, 1, none⟩ (.slice a6 n6 c6)).setCell ⟨w.heap.size + 1, 2, none⟩ (.slice a8 n8 c8)).setCell ⟨w.heap.size + 1, 3, none⟩ (.slice none 0 0)) = W8 at *
  obtain ⟨⟨t0, t1, t2, t3⟩, _⟩ := X.out
  exact bodyPost_ret (v := .agg #[.bool true, .slice a6 n6 c6, .slice a8 n8 c8, .slice none 0 0]) (by simp [results, Try.results35, go_sem, t0, t1, t2, t3]) rfl ⟨⟨_, rfl, P.out⟩, B8.out⟩

theorem Drop_leaf (v : Value) (p : Pg) (key : ByteArray) (w : World) (h : Pv w v p) (f : Fit p) (R : Rise p.keys) (hl : p.leaf = true) :
    Calls Try.prog 35 #[v, .string key] w fun e w' => NewP w w' e (dropP p key) := by
  cases fd : fnd p.keys key with
  | true => exact Drop_yes v p key w h f R hl fd
  | false =>
    rw [dropP_no fd]
    refine Drop_none v p key w h f.bd (fun W b => ?_)
    refine (Find_leaf v p key W (h.below b) f.bd R hl).mono ?_
    rintro e w' ⟨rfl, b'⟩
    rw [fd]
    exact ⟨⟨_, rfl⟩, b'⟩

end Go.Proofs.Ythdjghmipepppaa

