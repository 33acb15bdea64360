/- The walk over package frame: an area's read, on. -/
import Derived.Test.YtblmfkdcahhhbaaDoorH2
namespace Go.Proofs.YtblmfkdcahhhbaaDoor
open Go.RowKit
set_option linter.unusedVariables false
set_option linter.unusedSimpArgs false

set_option maxHeartbeats 2000000 in
theorem read_far (w : World) (pa p : Nat) (ar : Ar) (v : Value) (h : Am w pa p ar v) (at_ : Nat) (ha : ar.count ≤ at_) :
    Calls Tryd.prog 38 #[.pointer (some ⟨pa, 0, none⟩), .int .i64 (at_ : Nat)] w fun e w' => RdP w none e w' := by
  have c3 := h.c3
  have hl := h.lt
  have ha' : (ar.count : Int) ≤ (at_ : Int) := by omega
  clear h
  go_enter Tryd.func38, Tryd.ntmps38
  go_wp2
  refine bodyPost_ret (v := .tuple #[.agg #[.int .u8 0, .int .u64 0, .int .u32 0, .slice none 0 0], .int .i64 3]) (by simp [results, Tryd.results38, go_sem]) rfl ?_
  exact ⟨fun _ => rfl, (fun f e => (by cases e)), allocB _ _⟩

set_option maxRecDepth 100000 in
set_option maxHeartbeats 4000000 in
theorem read_on (w : World) (pa p q N : Nat) (s : St) (ar : Ar) (v : Value) (h : Am w pa p ar v) (d : Dk w p q N s) (ok : ArOk N ar) (T : Tab w) (at_ : Nat) (ha : at_ < ar.count) (on : s.on = true) :
    Calls Tryd.prog 38 #[.pointer (some ⟨pa, 0, none⟩), .int .i64 (at_ : Nat)] w fun e w' => RdP w (rdB s.sec (ar.first + at_) (ar.count - at_)) e w' := by
  have c3 := h.c3
  have hl := h.lt
  have c0 := h.c0
  have c2 := h.c2
  have ha' : ¬ (ar.count : Int) ≤ (at_ : Int) := by omega
  have f1 := ok.far
  have f2 := ok.big
  have u1 : (ar.first : Int) + (at_ : Int) ≤ 4096 := by omega
  have u2 : (ar.count : Int) ≤ 4096 := by omega
  have D : Hid _ := d
  have TT : Hid (Tab w) := T
  have OK : Hid _ := ok
  have HA : Hid _ := h
  have OO : Hid _ := on
  have IN : Hid (ar.first + at_ < N) := by show _ < _; omega
  obtain ⟨B, hB⟩ : ∃ B, B = w.alloc (.cells #[.int .u8 0, .int .u64 0, .int .u32 0, .slice none 0 0] 75) := ⟨_, rfl⟩
  have c0B : B.cell? ⟨pa, 0, none⟩ = some (.pointer (some ⟨p, 0, none⟩)) := by rw [hB, World.cell?_alloc_lt _ _ _ hl]; exact c0
  have c2B : B.cell? ⟨pa, 2, none⟩ = some (.int .i64 (ar.first : Nat)) := by rw [hB, World.cell?_alloc_lt _ _ _ hl]; exact c2
  have bB : Hid (Below w.heap.size w B) := by rw [hB]; exact allocB _ _
  have xB : Hid (B.heap[w.heap.size]? = some (.cells #[.int .u8 0, .int .u64 0, .int .u32 0, .slice none 0 0] 75)) := by rw [hB]; exact heap_alloc_last _ _
  clear h d T on
  go_enter Tryd.func38, Tryd.ntmps38
  go_upto_region 3 with fail
  rw [← hB]
  clear hB c0 c2 c3
  refine wp_region_held_drew (S := fun W => W.cell? ⟨pa, 0, none⟩ = some (.pointer (some ⟨p, 0, none⟩)) ∧ W.cell? ⟨pa, 2, none⟩ = some (.int .i64 (ar.first : Nat))) (by kernel_rfl) (⟨c0B, c2B⟩) (fun hHeld => ?_)
  refine take2 rfl (i := 0) (v := .pointer (some ⟨pa, 0, none⟩)) (d := 23) rfl rfl (by kernel_rfl) (by kernel_rfl) (by kernel_rfl) (fun _ _ _ h => h) (Or.inl ⟨by rfl, ?_⟩) (by exact hHeld) ?_
  · intro W hW
    try dsimp only at hW
    go_simp
  try simp only [Act.put, List.setIfInBounds_toArray, List.set_cons_zero, List.set_cons_succ]
  refine take2 rfl (i := 1) (v := .pointer (some ⟨pa, 0, none⟩)) (d := 24) rfl rfl (by kernel_rfl) (by kernel_rfl) (by kernel_rfl) (fun _ _ _ h => h) (Or.inl ⟨by rfl, ?_⟩) (by exact hHeld) ?_
  · intro W hW
    try dsimp only at hW
    go_simp
  try simp only [Act.put, List.setIfInBounds_toArray, List.set_cons_zero, List.set_cons_succ]
  refine take2 rfl (i := 2) (v := .pointer (some ⟨pa, 0, none⟩)) (d := 25) rfl rfl (by kernel_rfl) (by kernel_rfl) (by kernel_rfl) (fun _ _ _ h => h) (Or.inl ⟨by rfl, ?_⟩) (by exact hHeld) ?_
  · intro W hW
    try dsimp only at hW
    go_simp
  try simp only [Act.put, List.setIfInBounds_toArray, List.set_cons_zero, List.set_cons_succ]
  refine take2 rfl (i := 3) (v := .pointer (some ⟨p, 0, none⟩)) (d := 26) rfl rfl (by kernel_rfl) (by kernel_rfl) (by kernel_rfl) (fun _ _ _ h => h) (Or.inl ⟨by rfl, ?_⟩) (by exact hHeld) ?_
  · intro W hW
    try dsimp only at hW
    obtain ⟨hS0, hS2⟩ := hW
    go_simp
  try simp only [Act.put, List.setIfInBounds_toArray, List.set_cons_zero, List.set_cons_succ]
  refine take2 rfl (i := 4) (v := .pointer (some ⟨pa, 0, none⟩)) (d := 27) rfl rfl (by kernel_rfl) (by kernel_rfl) (by kernel_rfl) (fun _ _ _ h => h) (Or.inl ⟨by rfl, ?_⟩) (by exact hHeld) ?_
  · intro W hW
    try dsimp only at hW
    go_simp
  try simp only [Act.put, List.setIfInBounds_toArray, List.set_cons_zero, List.set_cons_succ]
  refine take2 rfl (i := 5) (v := .pointer (some ⟨pa, 0, none⟩)) (d := 28) rfl rfl (by kernel_rfl) (by kernel_rfl) (by kernel_rfl) (fun _ _ _ h => h) (Or.inl ⟨by rfl, ?_⟩) (by exact hHeld) ?_
  · intro W hW
    try dsimp only at hW
    go_simp
  try simp only [Act.put, List.setIfInBounds_toArray, List.set_cons_zero, List.set_cons_succ]
  refine take2 rfl (i := 6) (v := .pointer (some ⟨pa, 2, none⟩)) (d := 29) rfl rfl (by kernel_rfl) (by kernel_rfl) (by kernel_rfl) (fun _ _ _ h => h) (Or.inl ⟨by rfl, ?_⟩) (by exact hHeld) ?_
  · intro W hW
    try dsimp only at hW
    go_simp
  try simp only [Act.put, List.setIfInBounds_toArray, List.set_cons_zero, List.set_cons_succ]
  refine take2 rfl (i := 7) (v := .int .i64 (ar.first : Nat)) (d := 30) rfl rfl (by kernel_rfl) (by kernel_rfl) (by kernel_rfl) (fun _ _ _ h => h) (Or.inl ⟨by rfl, ?_⟩) (by exact hHeld) ?_
  · intro W hW
    try dsimp only at hW
    obtain ⟨hS0, hS2⟩ := hW
    go_simp
  try simp only [Act.put, List.setIfInBounds_toArray, List.set_cons_zero, List.set_cons_succ]
  refine take2 rfl (i := 8) (v := .int .i64 (at_ : Nat)) (d := 31) rfl rfl (by kernel_rfl) (by kernel_rfl) (by kernel_rfl) (fun _ _ _ h => h) (Or.inl ⟨by rfl, ?_⟩) (by exact hHeld) ?_
  · intro W hW
    try dsimp only at hW
    go_simp
  try simp only [Act.put, List.setIfInBounds_toArray, List.set_cons_zero, List.set_cons_succ]
  refine take2 rfl (i := 9) (v := .int .i64 ((ar.first : Int) + (at_ : Int))) (d := 32) rfl rfl (by kernel_rfl) (by kernel_rfl) (by kernel_rfl) (fun _ _ _ h => h) (Or.inl ⟨by rfl, ?_⟩) (by exact hHeld) ?_
  · intro W hW
    try dsimp only at hW
    have hw : IntKind.i64.wrap ((ar.first : Int) + (at_ : Int)) = (ar.first : Int) + (at_ : Int) := by rw [IntKind.wrap_i64]; omega
    go_simp
  try simp only [Act.put, List.setIfInBounds_toArray, List.set_cons_zero, List.set_cons_succ]
  refine wpAnyH_ready (rs := [10]) (by kernel_rfl) (by simp) ?_
  refine cons2 rfl rfl (fun K hK => ?_)
  go_simp
  have e9 : (ar.first : Int) + (at_ : Int) = ((ar.first + at_ : Nat) : Int) := by omega
  rw [e9]
  refine Calls.mono (Read_yes p q N s (ar.first + at_) _ (D.out.below (bB.out.drew)) IN.out OO.out) ?_
  clear e9
  rintro e w2 ⟨rfl, hw2⟩
  have b2 : Hid (Below B.heap.size B w2) := by rw [← hw2]; exact nextB ((Below.refl _ _).drew) (allocB _ _)
  have y2 : Hid (By w2 (some ⟨B.heap.size, 0, none⟩) 64 64 (s.sec (ar.first + at_))) := by
    have := by_const B.drew (s.sec (ar.first + at_)) (D.out.ok.bys _) (by rw [D.out.ok.len]; decide) (0, 0) 5
    rw [D.out.ok.len, hw2] at this
    exact this
  have l2 : Hid (B.heap.size < w2.heap.size) := by rw [← hw2]; simp [Hid]
  clear hw2
  have hH2 : w2.cell? ⟨pa, 0, none⟩ = some (.pointer (some ⟨p, 0, none⟩)) ∧ w2.cell? ⟨pa, 2, none⟩ = some (.int .i64 (ar.first : Nat)) := ⟨(b2.out.cell (p := ⟨pa, 0, none⟩) (World.block_lt_of_cell? _ _ c0B)).trans c0B, (b2.out.cell (p := ⟨pa, 2, none⟩) (World.block_lt_of_cell? _ _ c2B)).trans c2B⟩
  go_wp2_with fail
  refine hK.out _ _ ?_ (fun hX => ?_)
  · exact hH2
  clear hK K hX
  try simp only [Act.put, List.setIfInBounds_toArray, List.set_cons_zero, List.set_cons_succ]
  clear hHeld
  have hHeld := hH2
  refine take2 rfl (i := 11) (v := .tuple #[.slice (some ⟨B.heap.size, 0, none⟩) 64 64, .int .i64 0]) (d := 22) rfl rfl (by kernel_rfl) (by kernel_rfl) (by kernel_rfl) (fun _ _ _ h => h) (Or.inl ⟨by rfl, ?_⟩) (by exact hHeld) ?_
  · intro W hW
    try dsimp only at hW
    go_simp
  try simp only [Act.put, List.setIfInBounds_toArray, List.set_cons_zero, List.set_cons_succ]
  refine take2 rfl (i := 12) (v := .slice (some ⟨B.heap.size, 0, none⟩) 64 64) (d := 34) rfl rfl (by kernel_rfl) (by kernel_rfl) (by kernel_rfl) (fun _ _ _ h => h) (Or.inl ⟨by rfl, ?_⟩) (by exact hHeld) ?_
  · intro W hW
    try dsimp only at hW
    go_simp
  try simp only [Act.put, List.setIfInBounds_toArray, List.set_cons_zero, List.set_cons_succ]
  refine take2 rfl (i := 13) (v := .int .i64 0) (d := 35) rfl rfl (by kernel_rfl) (by kernel_rfl) (by kernel_rfl) (fun _ _ _ h => h) (Or.inl ⟨by rfl, ?_⟩) (by exact hHeld) ?_
  · intro W hW
    try dsimp only at hW
    go_simp
  try simp only [Act.put, List.setIfInBounds_toArray, List.set_cons_zero, List.set_cons_succ]
  refine take2 rfl (i := 14) (v := .slice (some ⟨B.heap.size, 0, none⟩) 64 64) (d := 6) rfl rfl (by kernel_rfl) (by kernel_rfl) (by kernel_rfl) (fun _ _ _ h => h) (Or.inl ⟨by rfl, ?_⟩) (by exact hHeld) ?_
  · intro W hW
    try dsimp only at hW
    go_simp
  try simp only [Act.put, List.setIfInBounds_toArray, List.set_cons_zero, List.set_cons_succ]
  refine take2 rfl (i := 15) (v := .int .i64 0) (d := 7) rfl rfl (by kernel_rfl) (by kernel_rfl) (by kernel_rfl) (fun _ _ _ h => h) (Or.inl ⟨by rfl, ?_⟩) (by exact hHeld) ?_
  · intro W hW
    try dsimp only at hW
    go_simp
  try simp only [Act.put, List.setIfInBounds_toArray, List.set_cons_zero, List.set_cons_succ]
  refine wpAnyH_done (by kernel_rfl) ?_ _
  clear hHeld
  have b2w : Hid (Below w.heap.size w w2) := nextB bB.out b2.out
  have x2 : Hid (w2.heap[w.heap.size]? = some (.cells #[.int .u8 0, .int .u64 0, .int .u32 0, .slice none 0 0] 75)) := by
    show _ = _
    rw [b2.out.block _ (Array.getElem?_eq_some_iff.1 xB.out).1]; exact xB.out
  clear b2 bB xB hH2 c0B c2B
  generalize B.heap.size = g0 at *
  go_wp2_with fail
  refine Calls.mono (told_any g0 (s.sec (ar.first + at_)) w2 y2.out) ?_
  rintro e w3 ⟨rfl, bt⟩
  have b3 : Hid (Below w.heap.size w w3) := nextB b2w.out bt
  have y3 : Hid _ := y2.out.below bt
  have l3 : Hid (g0 < w3.heap.size) := Nat.lt_of_lt_of_le l2.out bt.size
  have x3 : Hid (w3.heap[w.heap.size]? = some (.cells #[.int .u8 0, .int .u64 0, .int .u32 0, .slice none 0 0] 75)) := by
    show _ = _
    rw [bt.block _ (Array.getElem?_eq_some_iff.1 x2.out).1]; exact x2.out
  have c3 : w3.cell? ⟨pa, 3, none⟩ = some (.int .i64 (ar.count : Nat)) := (b3.out.cell (p := ⟨pa, 3, none⟩) hl).trans HA.out.c3
  clear bt b2w y2 l2 x2
  obtain ⟨m, hm⟩ : ∃ m, m = toldOf (s.sec (ar.first + at_)) := ⟨_, rfl⟩
  rw [← hm]
  have HM : Hid (m = toldOf (s.sec (ar.first + at_))) := hm
  have m17 : (m : Int) ≤ 17 := by
    have : m ≤ 17 := by
      rw [hm]; unfold toldOf; split
      · rename_i k; exact fsize_le k.2
      · omega
    omega
  clear hm
  rcases Nat.eq_zero_or_pos m with m0 | mp
  · subst m0
    have NS : Hid (rdB s.sec (ar.first + at_) (ar.count - at_) = none) := rdB_none (fun k => toldOf_zero HM.out.symm ⟨k.1, k.2.1⟩)
    obtain ⟨q0, q1, q2, q3, qf⟩ := box_cells x3.out
    go_wp2
    refine bodyPost_ret (v := .tuple #[.agg #[.int .u8 0, .int .u64 0, .int .u32 0, .slice none 0 0], .int .i64 3]) (by simp [results, Tryd.results38, go_sem, q0, q1, q2, q3, qf]) rfl ?_
    exact ⟨fun _ => rfl, (fun f e => (by rw [NS.out] at e; cases e)), ((((b3.out).setCell (Nat.le_refl _) _).setCell (Nat.le_refl _) _).setCell (Nat.le_refl _) _).setCell (Nat.le_refl _) _⟩

  · have mp' : ((m : Int) == 0) = false := beq_eq_false_iff_ne.2 (by omega)
    obtain ⟨t1, t2, t3⟩ := toldOf_pos (h := s.sec (ar.first + at_)) (by rw [← HM.out]; omega)
    by_cases r : m ≤ ar.count - at_
    · have r' : ¬ ((ar.count : Int) - (at_ : Int) < (m : Int)) := by omega
      have T1 : Hid _ := t1
      have T2 : Hid _ := t2
      have T3 : Hid (m = fsize (hN (s.sec (ar.first + at_)))) := HM.out.trans t3
      clear t1 t2 t3
      have I1 : Hid (RdS w (w3.alloc (.cells #[.slice (some ⟨g0, 0, none⟩) 64 64] 32)) (.slice (some ⟨w3.heap.size, 0, none⟩) 1 1) 1 (fun j => s.sec (ar.first + at_ + j))) := RdS.first b3.out x3.out y3.out l3.out
      obtain ⟨i0, hi, hz0, hz1, hz2⟩ := info_parts ssInfo
      have M17 : Hid (m ≤ 17) := by show _ ≤ _; omega
      have R1 : Hid (m ≤ ar.count - at_) := r
      go_wp2_with fail
      go_loopg [9, 10] (m - 1) (fun g sv iv wr => ∃ k : Nat, 1 ≤ k ∧ k ≤ m ∧ g = m - k ∧ iv = .int .i64 (k : Nat) ∧ Hid (RdS w wr sv k (fun j => s.sec (ar.first + at_ + j))))
      case atStart => exact ⟨1, Nat.le_refl _, mp, rfl, rfl, I1.out⟩
      case round =>
        obtain ⟨k, hk1, hk, rfl, rfl, T⟩ := hrel
        by_cases qk : k < m
        · have qk' : (k : Int) < (m : Int) := by omega
          have c0B : wr.cell? ⟨pa, 0, none⟩ = some (.pointer (some ⟨p, 0, none⟩)) := (T.out.bel.cell (p := ⟨pa, 0, none⟩) hl).trans HA.out.c0
          have c2B : wr.cell? ⟨pa, 2, none⟩ = some (.int .i64 (ar.first : Nat)) := (T.out.bel.cell (p := ⟨pa, 2, none⟩) hl).trans HA.out.c2
          have u3 : (ar.first : Int) + (at_ : Int) + (k : Int) ≤ 4096 := by have := R1.out; omega
          have IN2 : Hid (ar.first + at_ + k < N) := by show _ < _; have := R1.out; omega
          obtain ⟨vs, hr, hy⟩ := T.out.row
          have HR : Hid _ := hr
          have HY : Hid _ := hy
          clear hr hy
          go_upto_region 13 with fail
          refine wp_region_held_drew (S := fun W => W.cell? ⟨pa, 0, none⟩ = some (.pointer (some ⟨p, 0, none⟩)) ∧ W.cell? ⟨pa, 2, none⟩ = some (.int .i64 (ar.first : Nat))) (by kernel_rfl) (⟨c0B, c2B⟩) (fun hHeld => ?_)
          refine take2 rfl (i := 0) (v := .pointer (some ⟨pa, 0, none⟩)) (d := 63) rfl rfl (by kernel_rfl) (by kernel_rfl) (by kernel_rfl) (fun _ _ _ h => h) (Or.inl ⟨by rfl, ?_⟩) (by exact hHeld) ?_
          · intro W hW
            try dsimp only at hW
            go_simp
          try simp only [Act.put, List.setIfInBounds_toArray, List.set_cons_zero, List.set_cons_succ]
          refine take2 rfl (i := 1) (v := .pointer (some ⟨pa, 0, none⟩)) (d := 64) rfl rfl (by kernel_rfl) (by kernel_rfl) (by kernel_rfl) (fun _ _ _ h => h) (Or.inl ⟨by rfl, ?_⟩) (by exact hHeld) ?_
          · intro W hW
            try dsimp only at hW
            go_simp
          try simp only [Act.put, List.setIfInBounds_toArray, List.set_cons_zero, List.set_cons_succ]
          refine take2 rfl (i := 2) (v := .pointer (some ⟨pa, 0, none⟩)) (d := 65) rfl rfl (by kernel_rfl) (by kernel_rfl) (by kernel_rfl) (fun _ _ _ h => h) (Or.inl ⟨by rfl, ?_⟩) (by exact hHeld) ?_
          · intro W hW
            try dsimp only at hW
            go_simp
          try simp only [Act.put, List.setIfInBounds_toArray, List.set_cons_zero, List.set_cons_succ]
          refine take2 rfl (i := 3) (v := .pointer (some ⟨p, 0, none⟩)) (d := 66) rfl rfl (by kernel_rfl) (by kernel_rfl) (by kernel_rfl) (fun _ _ _ h => h) (Or.inl ⟨by rfl, ?_⟩) (by exact hHeld) ?_
          · intro W hW
            try dsimp only at hW
            obtain ⟨hS0, hS2⟩ := hW
            go_simp
          try simp only [Act.put, List.setIfInBounds_toArray, List.set_cons_zero, List.set_cons_succ]
          refine take2 rfl (i := 4) (v := .pointer (some ⟨pa, 0, none⟩)) (d := 67) rfl rfl (by kernel_rfl) (by kernel_rfl) (by kernel_rfl) (fun _ _ _ h => h) (Or.inl ⟨by rfl, ?_⟩) (by exact hHeld) ?_
          · intro W hW
            try dsimp only at hW
            go_simp
          try simp only [Act.put, List.setIfInBounds_toArray, List.set_cons_zero, List.set_cons_succ]
          refine take2 rfl (i := 5) (v := .pointer (some ⟨pa, 0, none⟩)) (d := 68) rfl rfl (by kernel_rfl) (by kernel_rfl) (by kernel_rfl) (fun _ _ _ h => h) (Or.inl ⟨by rfl, ?_⟩) (by exact hHeld) ?_
          · intro W hW
            try dsimp only at hW
            go_simp
          try simp only [Act.put, List.setIfInBounds_toArray, List.set_cons_zero, List.set_cons_succ]
          refine take2 rfl (i := 6) (v := .pointer (some ⟨pa, 2, none⟩)) (d := 69) rfl rfl (by kernel_rfl) (by kernel_rfl) (by kernel_rfl) (fun _ _ _ h => h) (Or.inl ⟨by rfl, ?_⟩) (by exact hHeld) ?_
          · intro W hW
            try dsimp only at hW
            go_simp
          try simp only [Act.put, List.setIfInBounds_toArray, List.set_cons_zero, List.set_cons_succ]
          refine take2 rfl (i := 7) (v := .int .i64 (ar.first : Nat)) (d := 70) rfl rfl (by kernel_rfl) (by kernel_rfl) (by kernel_rfl) (fun _ _ _ h => h) (Or.inl ⟨by rfl, ?_⟩) (by exact hHeld) ?_
          · intro W hW
            try dsimp only at hW
            obtain ⟨hS0, hS2⟩ := hW
            go_simp
          try simp only [Act.put, List.setIfInBounds_toArray, List.set_cons_zero, List.set_cons_succ]
          refine take2 rfl (i := 8) (v := .int .i64 (at_ : Nat)) (d := 71) rfl rfl (by kernel_rfl) (by kernel_rfl) (by kernel_rfl) (fun _ _ _ h => h) (Or.inl ⟨by rfl, ?_⟩) (by exact hHeld) ?_
          · intro W hW
            try dsimp only at hW
            go_simp
          try simp only [Act.put, List.setIfInBounds_toArray, List.set_cons_zero, List.set_cons_succ]
          refine take2 rfl (i := 9) (v := .int .i64 ((ar.first : Int) + (at_ : Int))) (d := 72) rfl rfl (by kernel_rfl) (by kernel_rfl) (by kernel_rfl) (fun _ _ _ h => h) (Or.inl ⟨by rfl, ?_⟩) (by exact hHeld) ?_
          · intro W hW
            try dsimp only at hW
            have hw : IntKind.i64.wrap ((ar.first : Int) + (at_ : Int)) = (ar.first : Int) + (at_ : Int) := by rw [IntKind.wrap_i64]; omega
            go_simp
          try simp only [Act.put, List.setIfInBounds_toArray, List.set_cons_zero, List.set_cons_succ]
          refine take2 rfl (i := 10) (v := .int .i64 (k : Nat)) (d := 73) rfl rfl (by kernel_rfl) (by kernel_rfl) (by kernel_rfl) (fun _ _ _ h => h) (Or.inl ⟨by rfl, ?_⟩) (by exact hHeld) ?_
          · intro W hW
            try dsimp only at hW
            go_simp
          try simp only [Act.put, List.setIfInBounds_toArray, List.set_cons_zero, List.set_cons_succ]
          refine take2 rfl (i := 11) (v := .int .i64 ((ar.first : Int) + (at_ : Int) + (k : Int))) (d := 74) rfl rfl (by kernel_rfl) (by kernel_rfl) (by kernel_rfl) (fun _ _ _ h => h) (Or.inl ⟨by rfl, ?_⟩) (by exact hHeld) ?_
          · intro W hW
            try dsimp only at hW
            have hw : IntKind.i64.wrap ((ar.first : Int) + (at_ : Int) + (k : Int)) = (ar.first : Int) + (at_ : Int) + (k : Int) := by rw [IntKind.wrap_i64]; omega
            go_simp
          try simp only [Act.put, List.setIfInBounds_toArray, List.set_cons_zero, List.set_cons_succ]
          refine wpAnyH_ready (rs := [12]) (by kernel_rfl) (by simp) ?_
          refine cons2 rfl rfl (fun K hK => ?_)
          go_simp
          have e9 : (ar.first : Int) + (at_ : Int) + (k : Int) = ((ar.first + at_ + k : Nat) : Int) := by omega
          rw [e9]
          refine Calls.mono (Read_yes p q N s (ar.first + at_ + k) _ (D.out.below (T.out.bel.drew)) IN2.out OO.out) ?_
          clear e9
          rintro e w4 ⟨rfl, hw4⟩
          have b4 : Hid (Below wr.heap.size wr w4) := by rw [← hw4]; exact nextB ((Below.refl _ _).drew) (allocB _ _)
          have y4 : Hid (By w4 (some ⟨wr.heap.size, 0, none⟩) 64 64 (s.sec (ar.first + at_ + k))) := by
            have := by_const wr.drew (s.sec (ar.first + at_ + k)) (D.out.ok.bys _) (by rw [D.out.ok.len]; decide) (0, 0) 5
            rw [D.out.ok.len, hw4] at this
            exact this
          have l4 : Hid (wr.heap.size < w4.heap.size) := by rw [← hw4]; simp [Hid]
          have GN : Hid (Value.ownBlock u9 ≠ some wr.heap.size) := fun e => by have := (owns_lt HR.out e).1; omega
          clear hw4
          have hH2 : w4.cell? ⟨pa, 0, none⟩ = some (.pointer (some ⟨p, 0, none⟩)) ∧ w4.cell? ⟨pa, 2, none⟩ = some (.int .i64 (ar.first : Nat)) := ⟨(b4.out.cell (p := ⟨pa, 0, none⟩) (World.block_lt_of_cell? _ _ c0B)).trans c0B, (b4.out.cell (p := ⟨pa, 2, none⟩) (World.block_lt_of_cell? _ _ c2B)).trans c2B⟩
          go_wp2_with fail
          refine hK.out _ _ ?_ (fun hX => ?_)
          · exact hH2
          clear hK K hX
          try simp only [Act.put, List.setIfInBounds_toArray, List.set_cons_zero, List.set_cons_succ]
          clear hHeld
          have hHeld := hH2
          refine take2 rfl (i := 13) (v := .tuple #[.slice (some ⟨wr.heap.size, 0, none⟩) 64 64, .int .i64 0]) (d := 62) rfl rfl (by kernel_rfl) (by kernel_rfl) (by kernel_rfl) (fun _ _ _ h => h) (Or.inl ⟨by rfl, ?_⟩) (by exact hHeld) ?_
          · intro W hW
            try dsimp only at hW
            go_simp
          try simp only [Act.put, List.setIfInBounds_toArray, List.set_cons_zero, List.set_cons_succ]
          refine take2 rfl (i := 14) (v := .slice (some ⟨wr.heap.size, 0, none⟩) 64 64) (d := 76) rfl rfl (by kernel_rfl) (by kernel_rfl) (by kernel_rfl) (fun _ _ _ h => h) (Or.inl ⟨by rfl, ?_⟩) (by exact hHeld) ?_
          · intro W hW
            try dsimp only at hW
            go_simp
          try simp only [Act.put, List.setIfInBounds_toArray, List.set_cons_zero, List.set_cons_succ]
          refine take2 rfl (i := 15) (v := .int .i64 0) (d := 77) rfl rfl (by kernel_rfl) (by kernel_rfl) (by kernel_rfl) (fun _ _ _ h => h) (Or.inl ⟨by rfl, ?_⟩) (by exact hHeld) ?_
          · intro W hW
            try dsimp only at hW
            go_simp
          try simp only [Act.put, List.setIfInBounds_toArray, List.set_cons_zero, List.set_cons_succ]
          refine take2 rfl (i := 16) (v := .slice (some ⟨wr.heap.size, 0, none⟩) 64 64) (d := 11) rfl rfl (by kernel_rfl) (by kernel_rfl) (by kernel_rfl) (fun _ _ _ h => h) (Or.inl ⟨by rfl, ?_⟩) (by exact hHeld) ?_
          · intro W hW
            try dsimp only at hW
            go_simp
          try simp only [Act.put, List.setIfInBounds_toArray, List.set_cons_zero, List.set_cons_succ]
          refine take2 rfl (i := 17) (v := .int .i64 0) (d := 12) rfl rfl (by kernel_rfl) (by kernel_rfl) (by kernel_rfl) (fun _ _ _ h => h) (Or.inl ⟨by rfl, ?_⟩) (by exact hHeld) ?_
          · intro W hW
            try dsimp only at hW
            go_simp
          try simp only [Act.put, List.setIfInBounds_toArray, List.set_cons_zero, List.set_cons_succ]
          refine wpAnyH_done (by kernel_rfl) ?_ _
          clear hHeld hH2 c0B c2B
          obtain ⟨g4, hg4⟩ : ∃ g4, g4 = wr.heap.size := ⟨_, rfl⟩
          rw [← hg4] at y4 l4 GN ⊢
          clear hg4
          go_wp2_with (at_builtin; refine wpList_append_lies _ rfl (.tmp 82) (.tmp 84) 57 rfl (w.heap.size + 1) 32 i0 _ 1 24 Tryd.underlying57 hi hz0 hz1 hz2 rfl (by decide) _ k vs rfl (ownsBelow HR.out (nextB b4.out (allocB w4 _))) ⟨w4.heap.size, 0, none⟩ 1 1 [.slice (some ⟨g4, 0, none⟩) 64 64] rfl rfl (World.news_of_block (heap_alloc_last w4 _)) (fun u hu => by simp at hu; subst hu; rfl) (by decide) (by unfold maxLen; have := M17.out; omega) (by have := M17.out; omega) (by have := (Array.getElem?_eq_some_iff.1 T.out.box).1; have := b4.out.size; simp; omega) _ rfl ?_; intro g6 cap6 x6 o6 gr6 hat6 _; have NX : Hid _ := T.out.next HR.out HY.out (nextB b4.out (allocB w4 _)) (y4.out.below (allocB w4 _)) (by have := l4.out; simp; omega) GN.out o6 gr6 hat6; clear o6 gr6 hat6)
          go_roundg (m - (k + 1))
          case measure => omega
          case rel => exact ⟨k + 1, by omega, by omega, rfl, by go_num, NX.out⟩
        · obtain rfl : m = k := by omega
          obtain ⟨bs, cp, rfl, sl⟩ := T.out.sl mp
          have SLL : Hid _ := sl
          have bW : Hid _ := T.out.bel
          have bx : Hid _ := T.out.box
          have WL : Hid (w.heap.size < wr.heap.size) := (Array.getElem?_eq_some_iff.1 T.out.box).1
          clear T sl qk
          go_wp2_with fail
          refine Calls.mono (decode_any bs m cp s.sec (ar.first + at_) wr (TT.out.next bW.out) SLL.out D.out.ok.len D.out.ok.bys T3.out T2.out) ?_
          rintro e w5 ⟨dn, dy, b5⟩
          have B5 : Hid (Below w.heap.size w w5) := nextB bW.out b5
          have X5 : Hid (w5.heap[w.heap.size]? = some (.cells #[.int .u8 0, .int .u64 0, .int .u32 0, .slice none 0 0] 75)) := by
            show _ = _
            rw [b5.block _ (Array.getElem?_eq_some_iff.1 bx.out).1]; exact bx.out
          have B5s : Hid (wr.heap.size ≤ w5.heap.size) := b5.size
          have bWs : Hid (w.heap.size ≤ wr.heap.size) := bW.out.size
          clear b5 SLL bx
          cases hd : dOk s.sec (ar.first + at_) with
          | false =>
            have NS : Hid (rdB s.sec (ar.first + at_) (ar.count - at_) = none) := rdB_none (fun k => by
              unfold dOk at hd
              rw [k.2.2.2.1, Bool.true_and] at hd
              exact absurd k.2.2.2.2 (of_decide_eq_false hd))
            obtain rfl := dn hd
            obtain ⟨q0, q1, q2, q3, qf⟩ := box_cells X5.out
            have hl5 : w.heap.size < w5.heap.size := (Array.getElem?_eq_some_iff.1 X5.out).1
            clear dn dy hd
            go_wp2
            refine bodyPost_ret (v := .tuple #[.agg #[.int .u8 0, .int .u64 0, .int .u32 0, .slice none 0 0], .int .i64 3]) (by simp [results, Tryd.results38, go_sem, q0, q1, q2, q3, qf, hl5]) rfl ?_
            exact ⟨fun _ => rfl, (fun f e => (by rw [NS.out] at e; cases e)), (((((B5.out).setCell (Nat.le_refl _) _).setCell (Nat.le_refl _) _).setCell (Nat.le_refl _) _).setCell (Nat.le_refl _) _).alloc (by simp; omega) _⟩
          | true =>
            have ST : Hid (rdB s.sec (ar.first + at_) (ar.count - at_) = some ⟨(s.sec (ar.first + at_)).getD 1 0, hLife (s.sec (ar.first + at_)), hNum (s.sec (ar.first + at_)), payB s.sec (ar.first + at_)⟩) := rdB_is (by
              unfold dOk at hd
              rw [Bool.and_eq_true] at hd
              exact ⟨T1.out, T2.out, by rw [← T3.out]; exact R1.out, hd.1, of_decide_eq_true hd.2⟩)
            obtain ⟨g, c, rfl, yp, hg⟩ := dy hd
            obtain ⟨q0, q1, q2, q3, qf⟩ := box_cells X5.out
            have YP : Hid _ := yp
            have HG : Hid (w.heap.size < g) := by show _ < _; have := WL.out; omega
            have hl5 : w.heap.size < w5.heap.size := (Array.getElem?_eq_some_iff.1 X5.out).1
            clear dn dy hd yp hg
            generalize hkd : (s.sec (ar.first + at_)).getD 1 0 = kd at *
            generalize hlf : hLife (s.sec (ar.first + at_)) = lf at *
            generalize hnm : hNum (s.sec (ar.first + at_)) = nm at *
            have KD : Hid ((s.sec (ar.first + at_)).getD 1 0 = kd) := hkd
            have LF : Hid (hLife (s.sec (ar.first + at_)) = lf) := hlf
            have NM : Hid (hNum (s.sec (ar.first + at_)) = nm) := hnm
            have PL : Hid ((payB s.sec (ar.first + at_)).length = hN (s.sec (ar.first + at_))) := payB_len D.out.ok.len _
            clear hkd hlf hnm
            go_wp2
            refine bodyPost_ret (v := .tuple #[.agg #[.int .u8 kd, .int .u64 (lf : Nat), .int .u32 (nm : Nat), .slice (some ⟨g, 0, none⟩) (hN (s.sec (ar.first + at_))) c], .int .i64 0]) (by simp [results, Tryd.results38, go_sem, q0, q1, q2, q3, qf, hl5]) rfl ?_
            refine ⟨(fun e => (by rw [ST.out] at e; cases e)), fun f e => ?_, (((((B5.out).setCell (Nat.le_refl _) _).setCell (Nat.le_refl _) _).setCell (Nat.le_refl _) _).setCell (Nat.le_refl _) _).alloc (by simp; omega) _⟩
            rw [ST.out] at e
            obtain rfl := Option.some.inj e
            have gn : g ≠ w.heap.size := by have := HG.out; omega
            have gl : 0 < hN (s.sec (ar.first + at_)) → g < w5.heap.size := fun h => YP.out.old h _ rfl
            refine ⟨g, c, ?_, ?_, by have := HG.out; omega⟩
            · show _ = Ending.returned (.tuple #[.agg #[_, _, _, .slice (some ⟨g, 0, none⟩) (payB s.sec (ar.first + at_)).length c], _])
              rw [PL.out]
            · show By _ _ (payB s.sec (ar.first + at_)).length c _
              rw [PL.out]
              refine YP.out.kept fun h x hx => ?_
              simp at hx; subst hx
              have := gl h
              rw [Below.heap_alloc _ _ _ (by simpa using this), Below.heap_setCell _ _ _ _ gn, Below.heap_setCell _ _ _ _ gn, Below.heap_setCell _ _ _ _ gn, Below.heap_setCell _ _ _ _ gn]
    · have r' : (ar.count : Int) - (at_ : Int) < (m : Int) := by omega
      have NS : Hid (rdB s.sec (ar.first + at_) (ar.count - at_) = none) := rdB_none (fun k => r (by have := k.2.2.1; rw [← t3, ← HM.out] at this; exact this))
      obtain ⟨q0, q1, q2, q3, qf⟩ := box_cells x3.out
      clear t1 t2 t3
      go_wp2
      refine bodyPost_ret (v := .tuple #[.agg #[.int .u8 0, .int .u64 0, .int .u32 0, .slice none 0 0], .int .i64 3]) (by simp [results, Tryd.results38, go_sem, q0, q1, q2, q3, qf]) rfl ?_
      exact ⟨fun _ => rfl, (fun f e => (by rw [NS.out] at e; cases e)), ((((b3.out).setCell (Nat.le_refl _) _).setCell (Nat.le_refl _) _).setCell (Nat.le_refl _) _).setCell (Nat.le_refl _) _⟩



end Go.Proofs.YtblmfkdcahhhbaaDoor
