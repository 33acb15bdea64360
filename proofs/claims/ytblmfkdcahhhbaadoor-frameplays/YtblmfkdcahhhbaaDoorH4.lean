/- The walk over package frame: an area's read without power. -/
import Derived.Test.YtblmfkdcahhhbaaDoorH3
namespace Go.Proofs.YtblmfkdcahhhbaaDoor
open Go.RowKit
set_option linter.unusedVariables false
set_option linter.unusedSimpArgs false

set_option maxRecDepth 100000 in
set_option maxHeartbeats 4000000 in
theorem read_off (w : World) (pa p q N : Nat) (s : St) (ar : Ar) (v : Value) (h : Am w pa p ar v) (d : Dk w p q N s) (ok : ArOk N ar) (at_ : Nat) (ha : at_ < ar.count) (on : s.on = false) :
    Calls Tryd.prog 38 #[.pointer (some ⟨pa, 0, none⟩), .int .i64 (at_ : Nat)] w fun e w' => e = .returned (.tuple #[.agg #[.int .u8 0, .int .u64 0, .int .u32 0, .slice none 0 0], .int .i64 4]) ∧ Below w.heap.size w w' := by
  have c3 := h.c3
  have hl := h.lt
  have c0 := h.c0
  have c2 := h.c2
  have ha' : ¬ (ar.count : Int) ≤ (at_ : Int) := by omega
  have f1 := ok.far
  have f2 := ok.big
  have u1 : (ar.first : Int) + (at_ : Int) ≤ 4096 := by omega
  have u2 : (ar.count : Int) ≤ 4096 := by omega
  have D : Hid _ := d
  have OO : Hid _ := on
  have IN : Hid (ar.first + at_ < N) := by show _ < _; omega
  obtain ⟨B, hB⟩ : ∃ B, B = w.alloc (.cells #[.int .u8 0, .int .u64 0, .int .u32 0, .slice none 0 0] 75) := ⟨_, rfl⟩
  have c0B : B.cell? ⟨pa, 0, none⟩ = some (.pointer (some ⟨p, 0, none⟩)) := by rw [hB, World.cell?_alloc_lt _ _ _ hl]; exact c0
  have c2B : B.cell? ⟨pa, 2, none⟩ = some (.int .i64 (ar.first : Nat)) := by rw [hB, World.cell?_alloc_lt _ _ _ hl]; exact c2
  have bB : Hid (Below w.heap.size w B) := by rw [hB]; exact allocB _ _
  have xB : Hid (B.heap[w.heap.size]? = some (.cells #[.int .u8 0, .int .u64 0, .int .u32 0, .slice none 0 0] 75)) := by rw [hB]; exact heap_alloc_last _ _
  clear h d on
  go_enter Tryd.func38, Tryd.ntmps38
  go_upto_region 3 with fail
  rw [← hB]
  clear hB c0 c2 c3
  refine wp_region_held_drew (S := fun W => W.cell? ⟨pa, 0, none⟩ = some (.pointer (some ⟨p, 0, none⟩)) ∧ W.cell? ⟨pa, 2, none⟩ = some (.int .i64 (ar.first : Nat))) (by kernel_rfl) (⟨c0B, c2B⟩) (fun hHeld => ?_)
  refine take2 rfl (i := 0) (v := .pointer (some ⟨pa, 0, none⟩)) (d := 23) rfl rfl (by kernel_rfl) (by kernel_rfl) (by kernel_rfl) (fun _ _ _ h => h) (Or.inl ⟨by rfl, ?_⟩) (by exact hHeld) ?_
  · intro W hW
    try dsimp only at hW
    go_simp
  try simp only [Act.put, List.setIfInBounds_toArray, List.set_cons_zero, List.set_cons_succ]
  refine take2 rfl (i := 1) (v := .pointer (some ⟨pa, 0, none⟩)) (d := 24) rfl rfl (by kernel_rfl) (by kernel_rfl) (by kernel_rfl) (fun _ _ _ h => h) (Or.inl ⟨by rfl, ?_⟩) (by exact hHeld) ?_
  · intro W hW
    try dsimp only at hW
    go_simp
  try simp only [Act.put, List.setIfInBounds_toArray, List.set_cons_zero, List.set_cons_succ]
  refine take2 rfl (i := 2) (v := .pointer (some ⟨pa, 0, none⟩)) (d := 25) rfl rfl (by kernel_rfl) (by kernel_rfl) (by kernel_rfl) (fun _ _ _ h => h) (Or.inl ⟨by rfl, ?_⟩) (by exact hHeld) ?_
  · intro W hW
    try dsimp only at hW
    go_simp
  try simp only [Act.put, List.setIfInBounds_toArray, List.set_cons_zero, List.set_cons_succ]
  refine take2 rfl (i := 3) (v := .pointer (some ⟨p, 0, none⟩)) (d := 26) rfl rfl (by kernel_rfl) (by kernel_rfl) (by kernel_rfl) (fun _ _ _ h => h) (Or.inl ⟨by rfl, ?_⟩) (by exact hHeld) ?_
  · intro W hW
    try dsimp only at hW
    obtain ⟨hS0, hS2⟩ := hW
    go_simp
  try simp only [Act.put, List.setIfInBounds_toArray, List.set_cons_zero, List.set_cons_succ]
  refine take2 rfl (i := 4) (v := .pointer (some ⟨pa, 0, none⟩)) (d := 27) rfl rfl (by kernel_rfl) (by kernel_rfl) (by kernel_rfl) (fun _ _ _ h => h) (Or.inl ⟨by rfl, ?_⟩) (by exact hHeld) ?_
  · intro W hW
    try dsimp only at hW
    go_simp
  try simp only [Act.put, List.setIfInBounds_toArray, List.set_cons_zero, List.set_cons_succ]
  refine take2 rfl (i := 5) (v := .pointer (some ⟨pa, 0, none⟩)) (d := 28) rfl rfl (by kernel_rfl) (by kernel_rfl) (by kernel_rfl) (fun _ _ _ h => h) (Or.inl ⟨by rfl, ?_⟩) (by exact hHeld) ?_
  · intro W hW
    try dsimp only at hW
    go_simp
  try simp only [Act.put, List.setIfInBounds_toArray, List.set_cons_zero, List.set_cons_succ]
  refine take2 rfl (i := 6) (v := .pointer (some ⟨pa, 2, none⟩)) (d := 29) rfl rfl (by kernel_rfl) (by kernel_rfl) (by kernel_rfl) (fun _ _ _ h => h) (Or.inl ⟨by rfl, ?_⟩) (by exact hHeld) ?_
  · intro W hW
    try dsimp only at hW
    go_simp
  try simp only [Act.put, List.setIfInBounds_toArray, List.set_cons_zero, List.set_cons_succ]
  refine take2 rfl (i := 7) (v := .int .i64 (ar.first : Nat)) (d := 30) rfl rfl (by kernel_rfl) (by kernel_rfl) (by kernel_rfl) (fun _ _ _ h => h) (Or.inl ⟨by rfl, ?_⟩) (by exact hHeld) ?_
  · intro W hW
    try dsimp only at hW
    obtain ⟨hS0, hS2⟩ := hW
    go_simp
  try simp only [Act.put, List.setIfInBounds_toArray, List.set_cons_zero, List.set_cons_succ]
  refine take2 rfl (i := 8) (v := .int .i64 (at_ : Nat)) (d := 31) rfl rfl (by kernel_rfl) (by kernel_rfl) (by kernel_rfl) (fun _ _ _ h => h) (Or.inl ⟨by rfl, ?_⟩) (by exact hHeld) ?_
  · intro W hW
    try dsimp only at hW
    go_simp
  try simp only [Act.put, List.setIfInBounds_toArray, List.set_cons_zero, List.set_cons_succ]
  refine take2 rfl (i := 9) (v := .int .i64 ((ar.first : Int) + (at_ : Int))) (d := 32) rfl rfl (by kernel_rfl) (by kernel_rfl) (by kernel_rfl) (fun _ _ _ h => h) (Or.inl ⟨by rfl, ?_⟩) (by exact hHeld) ?_
  · intro W hW
    try dsimp only at hW
    have hw : IntKind.i64.wrap ((ar.first : Int) + (at_ : Int)) = (ar.first : Int) + (at_ : Int) := by rw [IntKind.wrap_i64]; omega
    go_simp
  try simp only [Act.put, List.setIfInBounds_toArray, List.set_cons_zero, List.set_cons_succ]
  refine wpAnyH_ready (rs := [10]) (by kernel_rfl) (by simp) ?_
  refine cons2 rfl rfl (fun K hK => ?_)
  go_simp
  have RN := Read_no p q N s ((ar.first : Int) + (at_ : Int)) B.drew (D.out.below (bB.out.drew)) (Or.inr OO.out)
  rw [rE_off (decide_eq_true ⟨by omega, by have := IN.out; omega⟩) OO.out] at RN
  refine Calls.mono RN ?_
  clear RN
  rintro e w2 ⟨rfl, rfl⟩
  go_wp2_with fail
  refine hK.out _ _ ?_ (fun hX => ?_)
  · exact hHeld
  clear hK K hX
  try simp only [Act.put, List.setIfInBounds_toArray, List.set_cons_zero, List.set_cons_succ]
  refine take2 rfl (i := 11) (v := .tuple #[.slice none 0 0, .int .i64 4]) (d := 22) rfl rfl (by kernel_rfl) (by kernel_rfl) (by kernel_rfl) (fun _ _ _ h => h) (Or.inl ⟨by rfl, ?_⟩) (by exact hHeld) ?_
  · intro W hW
    try dsimp only at hW
    go_simp
  try simp only [Act.put, List.setIfInBounds_toArray, List.set_cons_zero, List.set_cons_succ]
  refine take2 rfl (i := 12) (v := .slice none 0 0) (d := 34) rfl rfl (by kernel_rfl) (by kernel_rfl) (by kernel_rfl) (fun _ _ _ h => h) (Or.inl ⟨by rfl, ?_⟩) (by exact hHeld) ?_
  · intro W hW
    try dsimp only at hW
    go_simp
  try simp only [Act.put, List.setIfInBounds_toArray, List.set_cons_zero, List.set_cons_succ]
  refine take2 rfl (i := 13) (v := .int .i64 4) (d := 35) rfl rfl (by kernel_rfl) (by kernel_rfl) (by kernel_rfl) (fun _ _ _ h => h) (Or.inl ⟨by rfl, ?_⟩) (by exact hHeld) ?_
  · intro W hW
    try dsimp only at hW
    go_simp
  try simp only [Act.put, List.setIfInBounds_toArray, List.set_cons_zero, List.set_cons_succ]
  refine take2 rfl (i := 14) (v := .slice none 0 0) (d := 6) rfl rfl (by kernel_rfl) (by kernel_rfl) (by kernel_rfl) (fun _ _ _ h => h) (Or.inl ⟨by rfl, ?_⟩) (by exact hHeld) ?_
  · intro W hW
    try dsimp only at hW
    go_simp
  try simp only [Act.put, List.setIfInBounds_toArray, List.set_cons_zero, List.set_cons_succ]
  refine take2 rfl (i := 15) (v := .int .i64 4) (d := 7) rfl rfl (by kernel_rfl) (by kernel_rfl) (by kernel_rfl) (fun _ _ _ h => h) (Or.inl ⟨by rfl, ?_⟩) (by exact hHeld) ?_
  · intro W hW
    try dsimp only at hW
    go_simp
  try simp only [Act.put, List.setIfInBounds_toArray, List.set_cons_zero, List.set_cons_succ]
  refine wpAnyH_done (by kernel_rfl) ?_ _
  clear hHeld
  obtain ⟨q0, q1, q2, q3, qf⟩ := box_cells xB.out
  go_wp2
  refine bodyPost_ret (v := .tuple #[.agg #[.int .u8 0, .int .u64 0, .int .u32 0, .slice none 0 0], .int .i64 4]) (by simp [results, Tryd.results38, go_sem, q0, q1, q2, q3, qf]) rfl ?_
  exact ⟨rfl, (((((bB.out).setCell (Nat.le_refl _) _).setCell (Nat.le_refl _) _).setCell (Nat.le_refl _) _).setCell (Nat.le_refl _) _).drew⟩


end Go.Proofs.YtblmfkdcahhhbaaDoor
