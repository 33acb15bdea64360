/- The walks over package disk, on: Copy. -/
import Derived.Test.YtidfgianbahjcaaD6
import Derived.WalkLawsBesides
namespace Go.Proofs.Ytidfgianbahjcaa
open Go.RowKit
set_option linter.unusedVariables false

theorem eq_nil_blocks (w : World) (a : Option Addr) (l c : Nat) : (binOp .eql 47 (.slice a l c) (.slice none 0 0)).run Try.prog w = .ok (.bool a.isNone) w := by
  have h : ∀ d : Nat, (Op.equalIn (d + 1) 47 (.slice a l c) (.slice none 0 0)).run Try.prog w = .ok a.isNone w := fun d => by
    cases a <;> simp [Op.equalIn, run_underlying Try.underlying47]
  simp only [binOp]
  simp [Op.equal, Op.maxDepth, h 9999]
/-- Sectors in memory. -/
structure Sect (w : World) (q n : Nat) (f : Nat → List Int) : Prop where
  row : ∀ i, i < n → w.rangeAt q (i * 64) ((f i).map (Value.int .u8))
  fq : ∀ o, w.frozen? ⟨q, o, none⟩ = false
theorem flat_cells {w : World} {p q n : Nat} {s : St} (h : Dk w p q n s) : ∀ j u, (vals (flat s.sec n))[j]? = some u → w.cell? ((⟨q, 0, none⟩ : Addr).add j) = some u := fun j u hu => by
  have hl := flat_len h.ok.len n
  have hj : j < n * 64 := by have := (List.getElem?_eq_some_iff.1 hu).1; rw [vals_len] at this; omega
  have e := flat_get h.ok.len n (j / 64) (j % 64) (by omega) (Nat.mod_lt _ (by decide))
  have ej : j / 64 * 64 + j % 64 = j := by omega
  rw [ej] at e
  rw [Addr.add_mid, Nat.zero_add, ← ej]
  refine h.row (j / 64) (by omega) (j % 64) u ?_
  rw [← hu]
  simp only [vals, List.getElem?_map, e]
theorem own_blocks (w : World) : (w.alloc (.cells #[] 54)).ownsRow w.heap.size 54 64 (.slice (some ⟨w.heap.size, 0, none⟩) 0 0) 0 [] :=
  ⟨rfl, .inr ⟨w.heap.size, 0, #[], rfl, Nat.le_refl _, heap_alloc_last w _, Nat.le_refl _, Nat.zero_le _, rfl, rfl⟩⟩
theorem own_rows {w : World} {base n : Nat} {v : Value} {f : Nat → List Int} (hf : ∀ i, (f i).length = 64) (hn : 0 < n) (h : w.ownsRow base 54 64 v n (vals (flat f n))) :
    ∃ g cap, v = .slice (some ⟨g, 0, none⟩) n cap ∧ n ≤ cap ∧ cap ≤ maxLen ∧ base ≤ g ∧ g < w.heap.size ∧ Sect w g n f := by
  have hh := h
  rcases h.2 with ⟨-, rfl⟩ | ⟨g, cap, cur, rfl, hb, hg, hnc, hm, hs, ht⟩
  · omega
  · refine ⟨g, cap, rfl, hnc, hm, hb, (Array.getElem?_eq_some_iff.1 hg).1, fun i hi j v hv => ?_, fun o => frozen_of_row _ _ _ _ _ hg⟩
    have hj : j < 64 := by have := (List.getElem?_eq_some_iff.1 hv).1; simp [hf] at this; omega
    have e := hh.cells (g := g) rfl (i * 64 + j) v (by rw [← hv]; simp only [vals, List.getElem?_map, flat_get hf n i j hi hj])
    rw [Addr.add_mid, Nat.zero_add] at e
    exact e

set_option maxHeartbeats 2000000 in
theorem clone_any (p q n cap : Nat) (s : St) (w : World) (h : Dk w p q n s) (hn : n ≤ 100000) :
    Calls Try.prog 27 #[.slice (some ⟨q, 0, none⟩) n cap] w fun e w' => (∃ g cap', e = .returned (.slice (some ⟨g, 0, none⟩) n cap') ∧ n ≤ cap' ∧ cap' ≤ maxLen ∧ w.heap.size ≤ g ∧ g < w'.heap.size ∧ Sect w' g n s.sec) ∧ Below w.heap.size w w' := by
  have E : (binOp .eql 47 (.slice (some ⟨q, 0, none⟩) n cap) (.slice none 0 0)).run Try.prog w = .ok (.bool false) w := eq_nil_blocks w _ n cap
  have X : Hid _ := flat_cells (h.below (allocB w (.cells #[] 54)))
  have L : Hid ((vals (flat s.sec n)).length = n * 64) := by show (vals (flat s.sec n)).length = n * 64; rw [vals_len, flat_len h.ok.len]
  have OKL : Hid _ := h.ok.len
  have NP : Hid _ := h.pos
  obtain ⟨i0, hi, hz0, hz1, hz2⟩ := info_parts blockInfo
  clear h
  go_enter Try.func27, Try.ntmps27
  go_wp2_with (at_builtin; refine wpList_append_own (w.alloc (.cells #[] 54)) rfl (.tmp 5) (.tmp 6) 47 rfl w.heap.size 54 i0 _ 64 64 Try.underlying47 hi hz0 hz1 hz2 rfl (by decide) _ 0 [] rfl (own_blocks w) ⟨q, 0, none⟩ n cap (vals (flat s.sec n)) rfl L.out X.out (vals_one _) (by unfold maxLen; omega) (by omega) (by simp) ?_; intro v2 w2 o2 g2 _)
  go_ret
  rw [List.nil_append, Nat.zero_add] at o2
  obtain ⟨g, cap', rfl, r⟩ := own_rows OKL.out NP.out o2
  exact ⟨⟨g, cap', rfl, r⟩, (allocB w _).grown g2 (by simp) (fun k hk => ((own_blocks w).lt k hk).1)⟩

theorem new_head {w w2 : World} {v0 : Value} {l : List Value} {t : TypeId} (b2 : Below (w.alloc (.cells (v0 :: l).toArray t)).heap.size (w.alloc (.cells (v0 :: l).toArray t)) w2) : w2.cell? ⟨w.heap.size, 0, none⟩ = some v0 ∧ w2.frozen? ⟨w.heap.size, 0, none⟩ = false := by
  have bp : w2.heap[w.heap.size]? = some (.cells (v0 :: l).toArray t) := by
    rw [b2.block _ (by simp)]; exact heap_alloc_last w _
  exact ⟨by rw [cell_of_row _ _ _ _ _ _ bp]; rfl, frozen_of_row _ _ _ _ _ bp⟩
/-- A disk's struct in a new block, its sectors in another one. -/
theorem copied_dk {w w2 : World} {p q n g cap' : Nat} {s : St} {v0 : Value} (h : Dk w p q n s) (b2 : Below (w.alloc (.cells #[v0, .bool s.on, .int .i64 (s.writes : Nat), .int .i64 (s.lives : Nat), .int .i64 (s.left : Nat), .bool s.late] 51)).heap.size (w.alloc (.cells #[v0, .bool s.on, .int .i64 (s.writes : Nat), .int .i64 (s.lives : Nat), .int .i64 (s.left : Nat), .bool s.late] 51)) w2)
    (hc : n ≤ cap') (hm : cap' ≤ maxLen) (hg : w.heap.size + 1 ≤ g) (r : Sect w2 g n s.sec) : Dk (w2.setCell ⟨w.heap.size, 0, none⟩ (.slice (some ⟨g, 0, none⟩) n cap')) w.heap.size g n s := by
  have bp : w2.heap[w.heap.size]? = some (.cells #[v0, .bool s.on, .int .i64 (s.writes : Nat), .int .i64 (s.lives : Nat), .int .i64 (s.left : Nat), .bool s.late] 51) := by
    rw [b2.block _ (by simp)]; exact heap_alloc_last w _
  have cp : ∀ o, w2.cell? ⟨w.heap.size, o, none⟩ = (#[v0, .bool s.on, .int .i64 (s.writes : Nat), .int .i64 (s.lives : Nat), .int .i64 (s.left : Nat), .bool s.late] : Array Value)[o]? := fun o => cell_of_row _ _ _ _ _ _ bp
  refine ⟨⟨cap', World.cell?_setCell_same _ _ _ (cp 0), hc, hm⟩, by rw [cell_set_ne _ (by decide), cp]; rfl, by rw [cell_set_ne _ (by decide), cp]; rfl, by rw [cell_set_ne _ (by decide), cp]; rfl, by rw [cell_set_ne _ (by decide), cp]; rfl, by rw [cell_set_ne _ (by decide), cp]; rfl, fun i hi j u hu => by rw [cell_set_far _ (by omega)]; exact r.row i hi j u hu, fun o => ?_, fun o => ?_, by omega, h.ok, h.pos⟩
  · rw [World.frozen?_setCell]; exact frozen_of_row _ _ _ _ _ bp
  · rw [World.frozen?_setCell]; exact r.fq o

set_option maxHeartbeats 2000000 in
theorem Copy_any (p q n : Nat) (s : St) (w : World) (h : Dk w p q n s) (hn : n ≤ 100000) :
    Calls Try.prog 17 #[.pointer (some ⟨p, 0, none⟩)] w fun e w' => ∃ p' q', e = .returned (.pointer (some ⟨p', 0, none⟩)) ∧ Dk w' p' q' n s ∧ w.heap.size ≤ p' ∧ w.heap.size ≤ q' ∧ Below w.heap.size w w' := by
  obtain ⟨cap, c0, hc1, hc2⟩ := h.c0
  have c1 := h.c1
  have c2 := h.c2
  have c3 := h.c3
  have c4 := h.c4
  have c5 := h.c5
  have hps := h.ltp
  have H : Hid _ := h
  clear h
  go_enter Try.func17, Try.ntmps17
  go_wp2_with (go_at_call 27; refine Calls.mono (clone_any p q n cap s _ (H.out.below (allocB w _)) hn) ?_; rintro e w2 ⟨⟨g, cap', rfl, k1, k2, k3, k4, r⟩, b2⟩; obtain ⟨q1, q2⟩ := new_head b2)
  go_ret
  refine ⟨w.heap.size, g, rfl, copied_dk H.out b2 k1 k2 (by simpa using k3) r, Nat.le_refl _, by simp at k3; omega, ?_⟩
  exact ((allocB w _).trans (b2.mono (by simp))).setCell (Nat.le_refl _) _

end Go.Proofs.Ytidfgianbahjcaa
