/- slices.Insert and slices.Delete of texts. -/
import Derived.Test.YtfedcghkohfhlaaS4
import Derived.Test.YtfedcghkohfhlaaPc
import Derived.Test.YtfedcghkohfhlaaLy
namespace Go.Proofs.Ytfedcghkohfhlaa
open Go.Shelf Go.RowKit
set_option linter.unusedVariables false
set_option linter.unusedSimpArgs false

theorem grownBy_setCells (g : Nat) : ∀ (vs : List Value) (o : Nat) (w : World), w.grownBy (w.setCells g o vs) (some g)
  | [], o, w => World.grownBy.refl w _
  | v :: r, o, w => grownBy_trans (grownBy_setCell w g o v) (grownBy_setCells g r (o + 1) _)
theorem grownBy_drew (w : World) (r : Option Nat) : w.grownBy w.drew r := ⟨rfl, rfl, rfl, Nat.le_refl _, fun _ _ _ => rfl⟩
theorem grownBy_drewN (w : World) (n : Nat) (r : Option Nat) : w.grownBy (w.drewN n) r := ⟨rfl, rfl, rfl, Nat.le_refl _, fun _ _ _ => rfl⟩
theorem grownBy_alloc (w : World) (o : Obj) (r : Option Nat) : w.grownBy (w.alloc o) r := ⟨rfl, rfl, rfl, by simp, fun k hk _ => Below.heap_alloc _ _ _ hk⟩

/-- What Insert answers: where it lies, and what. -/
structure InsP (w w' : World) (v : Value) (e : Ending) (n : Nat) (vs : List Value) : Prop where
  ex : ∃ a c, e = .returned (.slice a n c) ∧ Sl w' a n c vs ∧ (∀ x, a = some x → some x.block = v.ownBlock ∨ x.block = w.heap.size)
  gr : w.grownBy w' v.ownBlock

/-- Cells in the order they lie make a slice. -/
theorem sl_of {w : World} {b n cap : Nat} {vs : List Value} (hl : vs.length = n) (hf : n ≤ cap) (hm : cap ≤ maxLen) (hc : ∀ i u, vs[i]? = some u → w.cell? ⟨b, i, none⟩ = some u) (h1 : ∀ u ∈ vs, u.oneCell' = true) : Sl w (some ⟨b, 0, none⟩) n cap vs :=
  ⟨hl, hf, hm, fun e => by simp at e, ⟨b, 0, fun _ => rfl, fun i u hi => by rw [Nat.zero_add]; exact hc i u hi⟩, h1⟩

theorem sv_ins (ss : List ByteArray) (i : Nat) (x : ByteArray) : sv (insAt ss i x) = (sv ss).take i ++ Value.string x :: (sv ss).drop i := by
  unfold insAt
  rw [sv_app]
  simp [sv]
theorem ins_get {ss : List ByteArray} {i j : Nat} {x : ByteArray} {u : Value} (hi : i ≤ ss.length) (h : (sv (insAt ss i x))[j]? = some u) : (j < i ∧ (sv ss)[j]? = some u) ∨ (j = i ∧ u = .string x) ∨ (i < j ∧ (sv ss)[j - 1]? = some u) := by
  rw [sv_ins] at h
  have hl : ((sv ss).take i).length = i := by rw [List.length_take, sv_len]; omega
  rcases Nat.lt_or_ge j i with q | q
  · left
    rw [List.getElem?_append_left (by omega), List.getElem?_take_of_lt q] at h
    exact ⟨q, h⟩
  · rw [List.getElem?_append_right (by omega), hl] at h
    rcases Nat.lt_or_ge i j with r | r
    · right; right
      have e : j - i = (j - i - 1) + 1 := by omega
      rw [e, List.getElem?_cons_succ, List.getElem?_drop] at h
      refine ⟨r, ?_⟩
      rw [show j - 1 = i + (j - i - 1) by omega]
      exact h
    · right; left
      obtain rfl : j = i := by omega
      rw [Nat.sub_self, List.getElem?_cons_zero] at h
      exact ⟨rfl, by injection h with h; exact h.symm⟩

theorem cell_alloc_new (w : World) (cs : Array Value) (t : TypeId) (j : Nat) : (w.alloc (.cells cs t)).cell? ⟨w.heap.size, j, none⟩ = cs[j]? :=
  cell_of_row _ _ _ _ _ _ (heap_alloc_new w _)

theorem Insert_any (v : Value) (ss : List ByteArray) (i : Nat) (x : ByteArray) (base : Nat) (w : World) (h : Ow w 9 base v (sv ss)) (hi : i ≤ ss.length) (hn : ss.length ≤ 100000) (vb : Nat) (hv : w.heap[vb]? = some (.cells #[.string x] 9 (0, 0))) (hne : v.ownBlock ≠ some vb) :
    Calls Try.prog 50 #[v, .int .i64 (i : Nat), .slice (some ⟨vb, 0, none⟩) 1 1] w fun e w' => InsP w w' v e (ss.length + 1) (sv (insAt ss i x)) := by
  have hil : (sv (insAt ss i x)).length = ss.length + 1 := by rw [sv_len]; exact insAt_len hi
  have h1v : ∀ u ∈ [Value.string x], u.oneCell' = true := fun u hu => by simp at hu; subst hu; rfl
  have hvs : ∀ j u, ([Value.string x])[j]? = some u → w.cell? ⟨vb, 0 + j, none⟩ = some u := fun j u hj => by
    have := lt_of_some hj
    obtain rfl : j = 0 := by simp at this; omega
    rw [cell_of_row _ _ _ _ _ _ hv]
    exact hj
  have gc : ∀ n c, n ≤ 100001 → n ≤ grownCap w n c 9 ∧ grownCap w n c 9 ≤ maxLen := fun n c hn => ⟨grownCap_ge w n c 9, grownCap_le_maxLen w n c 9 (by unfold maxLen; omega)⟩
  rcases h.row.2 with ⟨rfl, h0⟩ | ⟨g, cap, cur, rfl, hb, hg, hnc, hcm, hcs, ht⟩
  · rw [sv_len] at h0
    obtain rfl : ss = [] := List.length_eq_zero_iff.1 h0
    obtain rfl : i = 0 := by simpa using hi
    refine (Any2.slices_Insert_string_end_grow laysI none 0 0 vb 0 1 1 [] [.string x] w (by decide) (Nat.le_refl _) (by decide) (by decide) rfl rfl (fun _ => rfl) (fun a e => by cases e) hvs h1v).mono ?_
    rintro e w' ⟨rfl, rfl⟩
    have g1 := gc (0 + 1) 0 (by omega)
    refine ⟨⟨some ⟨w.heap.size, 0, none⟩, _, rfl, sl_of (by rw [sv_len]; rfl) g1.1 g1.2 (fun j u hj => ?_) (sv_one _), fun y hy => by simp at hy; subst hy; exact Or.inr rfl⟩, grownBy_trans (grownBy_drew w _) (grownBy_alloc _ _ _)⟩
    have := lt_of_some hj
    obtain rfl : j = 0 := by rw [sv_len] at this; simp [insAt] at this; omega
    have q := cell_alloc_new w.drew ((([] : List Value) ++ [Value.string x]).toArray ++ Builtin.zeroCells (Value.string ⟨#[]⟩).cells (grownCap w (0 + 1) 0 9 - (0 + 1))) 9 0
    refine Eq.trans q ?_
    rw [Array.getElem?_append_left (by simp)]
    simpa [sv, insAt] using hj
  · rw [sv_len] at hnc ht ⊢
    rw [Nat.mul_one] at hcs ht
    have hcell : ∀ j u, (sv ss)[j]? = some u → w.cell? ⟨g, 0 + j, none⟩ = some u := fun j u hj => by
      have hjl := lt_of_some hj
      rw [sv_len] at hjl
      rw [Nat.zero_add, cell_of_row _ _ _ _ _ _ hg]
      rw [← ht, List.getElem?_take_of_lt hjl, Array.getElem?_toList] at hj
      exact hj
    have hsome : ∀ j, j < cap → (w.cell? ⟨g, j, none⟩).isSome = true := fun j hj => by
      rw [cell_of_row _ _ _ _ _ _ hg, Array.getElem?_eq_getElem (by omega)]
      rfl
    have hfz : ∀ j, w.frozen? ⟨g, j, none⟩ = false := fun j => frozen_of_row _ _ _ _ _ hg
    have hgv : vb ≠ g := fun e => hne (by rw [e]; rfl)
    have hm63 : cap ≤ 9223372036854775807 := by unfold maxLen at hcm; omega
    have own : ∀ y : Addr, some (⟨g, 0, none⟩ : Addr) = some y → some y.block = (Value.slice (some ⟨g, 0, none⟩) ss.length cap).ownBlock ∨ y.block = w.heap.size := fun y hy => by
      injection hy with hy; subst hy; exact Or.inl rfl
    have new : ∀ y : Addr, some (⟨w.heap.size, 0, none⟩ : Addr) = some y → some y.block = (Value.slice (some ⟨g, 0, none⟩) ss.length cap).ownBlock ∨ y.block = w.heap.size := fun y hy => by
      injection hy with hy; subst hy; exact Or.inr rfl
    by_cases ci : i = ss.length
    · subst ci
      by_cases cr : ss.length + 1 ≤ cap
      · refine (Any2.slices_Insert_string_end_room laysI g 0 ss.length cap vb 0 1 1 [.string x] w (by decide) cr hm63 rfl (fun j hj => hsome _ (by omega)) (fun j hj => hfz _) hvs h1v).mono ?_
        rintro e w' ⟨rfl, rfl⟩
        refine ⟨⟨_, _, rfl, sl_of hil cr hcm (fun j u hj => ?_) (sv_one _), own⟩, grownBy_setCells g _ _ w⟩
        rcases ins_get (Nat.le_refl _) hj with ⟨q, r⟩ | ⟨q, r⟩ | ⟨q, r⟩
        · rw [World.cell?_setCells_out g _ _ w ⟨g, j, none⟩ (fun _ _ => by left; show j < 0 + ss.length; omega)]
          have := hcell j u r
          rwa [Nat.zero_add] at this
        · subst q r
          have := World.cell?_setCells_in g [Value.string x] (0 + ss.length) w (fun j hj => hsome _ (by simp at hj; omega)) 0 (by simp)
          simp only [Nat.zero_add, Nat.add_zero] at this ⊢
          exact this
        · have := lt_of_some hj
          omega
      · refine (Any2.slices_Insert_string_end_grow laysI (some ⟨g, 0, none⟩) ss.length cap vb 0 1 1 (sv ss) [.string x] w (by decide) hnc (by omega) (by omega) (sv_len ss) rfl (fun e => by cases e) (fun a e j u hj => by injection e with e; subst e; rw [Addr.add_mid]; exact hcell j u hj) hvs h1v).mono ?_
        rintro e w' ⟨rfl, rfl⟩
        have g1 := gc (ss.length + 1) cap (by omega)
        refine ⟨⟨_, _, rfl, sl_of hil g1.1 g1.2 (fun j u hj => ?_) (sv_one _), new⟩, grownBy_trans (grownBy_drew w _) (grownBy_alloc _ _ _)⟩
        have hjl := lt_of_some hj
        refine Eq.trans (cell_alloc_new w.drew _ 9 j) ?_
        rw [Array.getElem?_append_left (by simp [sv_len]; omega)]
        rw [sv_ins] at hj
        have e1 : (sv ss).take ss.length = sv ss := List.take_of_length_le (by rw [sv_len]; exact Nat.le_refl _)
        have e2 : (sv ss).drop ss.length = [] := List.drop_of_length_le (by rw [sv_len]; exact Nat.le_refl _)
        rw [e1, e2] at hj
        rw [List.getElem?_toArray]
        exact hj
    · have il : i < ss.length := by omega
      by_cases cr : ss.length + 1 ≤ cap
      · refine (Any2.slices_Insert_string_shift laysI g 0 ss.length cap i vb 0 1 1 (sv ss) [.string x] w il (by decide) cr hm63 hgv (sv_len ss) rfl hcell (fun j hj => by rw [Nat.zero_add]; exact hsome _ (by omega)) (fun j hj => hfz _) hvs (sv_one ss) h1v 9 9 1 cap (by simp [World.shape?, hv]) (by simp [World.shape?, hg, hcs]) (by omega) (by simp [World.frozen?, hv]) (by simp [World.frozen?, hv])).mono ?_
        rintro e w' ⟨rfl, rfl⟩
        refine ⟨⟨_, _, rfl, sl_of hil cr hcm (fun j u hj => ?_) (sv_one _), own⟩, grownBy_trans (grownBy_trans (grownBy_drew w _) (grownBy_setCells g _ _ _)) (grownBy_setCells g _ _ _)⟩
        have dl : ((sv ss).drop i).length = ss.length - i := by rw [List.length_drop, sv_len]
        have s1 : ∀ k, k < cap → ((w.drew.setCells g (0 + (i + 1)) ((sv ss).drop i)).cell? ⟨g, k, none⟩).isSome = true := fun k hk => World.isSome_setCells g _ _ _ _ (hsome k hk)
        rcases ins_get hi hj with ⟨q, r⟩ | ⟨q, r⟩ | ⟨q, r⟩
        · rw [World.cell?_setCells_out g _ _ _ ⟨g, j, none⟩ (fun _ _ => by left; show j < 0 + i; omega), World.cell?_setCells_out g _ _ _ ⟨g, j, none⟩ (fun _ _ => by left; show j < 0 + (i + 1); omega)]
          have := hcell j u r
          rw [Nat.zero_add] at this
          exact this
        · subst q r
          have := World.cell?_setCells_in g [Value.string x] (0 + j) (w.drew.setCells g (0 + (j + 1)) ((sv ss).drop j)) (fun k hk => s1 _ (by simp at hk; omega)) 0 (by simp)
          simp only [Nat.zero_add, Nat.add_zero] at this ⊢
          exact this
        · have jl : j < ss.length + 1 := by have := lt_of_some hj; omega
          rw [World.cell?_setCells_out g _ _ _ ⟨g, j, none⟩ (fun _ _ => by right; show 0 + i + [Value.string x].length ≤ j; simp; omega)]
          have := World.cell?_setCells_in g ((sv ss).drop i) (0 + (i + 1)) w.drew (fun k hk => hsome _ (by omega)) (j - (i + 1)) (by omega)
          rw [show 0 + (i + 1) + (j - (i + 1)) = j by omega] at this
          rw [this]
          rw [← r]
          rw [List.getElem_drop, List.getElem?_eq_getElem (by rw [sv_len]; omega)]
          congr 2
          omega
      · refine (Any2.slices_Insert_string_grow laysI g 0 ss.length cap i vb 0 1 1 (sv ss) [.string x] w il (by decide) hnc (by omega) (by omega) (sv_len ss) rfl hcell hvs (sv_one ss) h1v).mono ?_
        rintro e w' ⟨rfl, rfl⟩
        have g1 := gc (ss.length + 1) cap (by omega)
        have dl : ((sv ss).drop i).length = ss.length - i := by rw [List.length_drop, sv_len]
        have tl : ((sv ss).take i).length = i := by rw [List.length_take, sv_len]; omega
        obtain ⟨CS, hCS⟩ : ∃ CS, CS = ((sv ss).take i).toArray ++ Builtin.zeroCells (Value.string ⟨#[]⟩).cells (ss.length + 1 - i) ++ Builtin.zeroCells (Value.string ⟨#[]⟩).cells (grownCap w (ss.length + 1) cap (renI.t 9) - (ss.length + 1)) := ⟨_, rfl⟩
        rw [← hCS]
        have one : (Value.string ⟨#[]⟩).cells.size = 1 := rfl
        have csz : ss.length + 1 ≤ CS.size := by
          rw [hCS]
          simp only [Array.size_append, List.size_toArray, size_zeroCells, tl, one]
          omega
        have csi : ∀ j u, j < i → (sv ss)[j]? = some u → CS[j]? = some u := fun j u hj hu => by
          rw [hCS, Array.getElem?_append_left (by simp only [Array.size_append, List.size_toArray, size_zeroCells, tl, one]; omega), Array.getElem?_append_left (by simp only [List.size_toArray, tl]; exact hj), List.getElem?_toArray, List.getElem?_take_of_lt hj]
          exact hu
        obtain ⟨W1, hW1⟩ : ∃ W1, W1 = (w.alloc (.cells CS (renI.t 9))).drew := ⟨_, rfl⟩
        rw [← hW1]
        have c1 : ∀ j, W1.cell? ⟨w.heap.size, j, none⟩ = CS[j]? := fun j => by rw [hW1]; exact cell_alloc_new w CS _ j
        have b1 : Below w.heap.size w W1 := by rw [hW1]; exact (allocB w _).drew
        have so : ∀ j, j < ss.length + 1 → (W1.cell? ⟨w.heap.size, j, none⟩).isSome = true := fun j hj => by
          rw [c1, Array.getElem?_eq_getElem (by omega)]; rfl
        have B3 : Below w.heap.size w ((W1.setCells w.heap.size i [Value.string x]).drew.setCells w.heap.size (i + 1) ((sv ss).drop i)) := by
          have q := b1.grown (grownBy_setCells w.heap.size [Value.string x] i W1) b1.size (fun k hk => by injection hk with hk; omega)
          have q2 := q.drew
          exact q2.grown (grownBy_setCells w.heap.size ((sv ss).drop i) (i + 1) _) q2.size (fun k hk => by injection hk with hk; omega)
        refine ⟨⟨_, _, rfl, sl_of hil g1.1 g1.2 (fun j u hj => ?_) (sv_one _), new⟩, ⟨B3.1, B3.2, B3.3, B3.size, fun k hk _ => B3.block k hk⟩⟩
        rcases ins_get hi hj with ⟨q, r⟩ | ⟨q, r⟩ | ⟨q, r⟩
        · rw [World.cell?_setCells_out w.heap.size _ _ _ ⟨w.heap.size, j, none⟩ (fun _ _ => by left; show j < i + 1; omega)]
          show (W1.setCells w.heap.size i [Value.string x]).cell? ⟨w.heap.size, j, none⟩ = some u
          rw [World.cell?_setCells_out w.heap.size _ _ _ ⟨w.heap.size, j, none⟩ (fun _ _ => by left; show j < i; omega), c1]
          exact csi j u q r
        · subst q r
          rw [World.cell?_setCells_out w.heap.size _ _ _ ⟨w.heap.size, j, none⟩ (fun _ _ => by left; show j < j + 1; omega)]
          have := World.cell?_setCells_in w.heap.size [Value.string x] j W1 (fun k hk => so _ (by simp at hk; omega)) 0 (by simp)
          simp only [Nat.add_zero] at this
          exact this
        · have jl : j < ss.length + 1 := by have := lt_of_some hj; omega
          have := World.cell?_setCells_in w.heap.size ((sv ss).drop i) (i + 1) (W1.setCells w.heap.size i [Value.string x]).drew (fun k hk => World.isSome_setCells w.heap.size _ _ _ _ (so _ (by omega))) (j - (i + 1)) (by omega)
          rw [show i + 1 + (j - (i + 1)) = j by omega] at this
          rw [this]
          rw [← r]
          rw [List.getElem_drop, List.getElem?_eq_getElem (by rw [sv_len]; omega)]
          congr 2
          omega

/-- What Delete answers. -/
theorem Delete_any (v : Value) (ss : List ByteArray) (i : Nat) (base : Nat) (w : World) (h : Ow w 9 base v (sv ss)) (hi : i < ss.length) (hn : ss.length ≤ 100000) :
    Calls Try.prog 53 #[v, .int .i64 (i : Nat), .int .i64 ((i + 1 : Nat) : Int)] w fun e w' => InsP w w' v e (ss.length - 1) (sv (delAt ss i)) := by
  rcases h.row.2 with ⟨rfl, h0⟩ | ⟨g, cap, cur, rfl, hb, hg, hnc, hcm, hcs, ht⟩
  · rw [sv_len] at h0; omega
  · rw [sv_len] at hnc ht ⊢
    rw [Nat.mul_one] at hcs ht
    have hcell : ∀ j, j < ss.length → w.cell? ⟨g, 0 + j, none⟩ = some (.string (kAt ss j)) := fun j hj => by
      rw [Nat.zero_add, cell_of_row _ _ _ _ _ _ hg]
      have q := sv_get hj
      rw [← ht, List.getElem?_take_of_lt hj, Array.getElem?_toList] at q
      exact q
    have hfz : ∀ j, w.frozen? ⟨g, j, none⟩ = false := fun j => frozen_of_row _ _ _ _ _ hg
    refine (Any.slices_Delete_string_cells laysD g 0 ss.length cap i (i + 1) (kAt ss) w hnc (by unfold maxLen at hcm; omega) (by omega) (by omega) hcell (fun j hj => hfz _)).mono ?_
    rintro e w' ⟨rfl, q, rfl⟩
    have e1 : ss.length - (i + 1 - i) = ss.length - 1 := by omega
    rw [e1]
    refine ⟨⟨_, _, rfl, sl_of (by rw [sv_len]; exact delAt_len hi) (by omega) hcm (fun j u hj => ?_) (sv_one _), fun y hy => by injection hy with hy; subst hy; exact Or.inl rfl⟩, grownBy_trans (grownBy_drewN w q _) (grownBy_setCells g _ _ _)⟩
    have jl : j < ss.length - 1 := by have := lt_of_some hj; rw [sv_len, delAt_len hi] at this; exact this
    have em : (Lib.strsOf (kAt ss) ss.length).map Go.Proofs.encStr = sv ss := by
      apply List.ext_getElem?
      intro t
      rcases Nat.lt_or_ge t ss.length with q | q
      · rw [sv_get q]
        simp [Lib.strsOf, q, Go.Proofs.encStr, kAt]
      · rw [List.getElem?_eq_none (by simp [Lib.strsOf]; exact q), List.getElem?_eq_none (by rw [sv_len]; exact q)]
    obtain ⟨L, hL⟩ : ∃ L, L = ((Lib.strsOf (kAt ss) ss.length).take i ++ (Lib.strsOf (kAt ss) ss.length).drop (i + 1) ++ List.replicate (i + 1 - i) []).map Go.Proofs.encStr := ⟨_, rfl⟩
    rw [← hL]
    have hL2 : L = sv (delAt ss i) ++ (List.replicate (i + 1 - i) []).map Go.Proofs.encStr := by
      rw [hL, List.map_append, List.map_append, List.map_take, List.map_drop, em]
      unfold delAt
      rw [sv_app, sv_take, sv_drop]
    have ll : L.length = ss.length := by
      rw [hL2, List.length_append, sv_len, delAt_len hi]
      simp
      omega
    have := World.cell?_setCells_in g L 0 (w.drewN q) (fun k hk => by
      rw [Nat.zero_add]
      show (w.cell? ⟨g, k, none⟩).isSome = true
      have := hcell k (by omega)
      rw [Nat.zero_add] at this
      rw [this]; rfl) j (by omega)
    rw [Nat.zero_add] at this
    rw [this, ← hj]
    have e2 : L[j]? = (sv (delAt ss i))[j]? := by rw [hL2, List.getElem?_append_left (by rw [sv_len, delAt_len hi]; exact jl)]
    rw [← e2, List.getElem?_eq_getElem]

end Go.Proofs.Ytfedcghkohfhlaa
