/- The law's shelf: Add. A reader: its pages, through the interface. Pages of trees fit; steps in memory; the reading that fails. -/
import Derived.Test.YthdjghmipepppaaMn
import Derived.Test.YthdjghmipepppaaMl
namespace Go.Proofs.Ythdjghmipepppaa
open Go.RowKit
set_option linter.unusedVariables false
set_option linter.unusedSimpArgs false

theorem pageInfo : (Try.prog.info? 54).map (fun i => (i.zero, i.size, i.bytes)) = some (some zeroV, 4, 80) := by kernel_rfl
/-- A page appended to the shelf's row. -/
theorem Shf.grow {w : World} {P : Nat} {sl : Value} {vs : List V4} {sh : List Pg} {ill n : Nat} (h : Shf w P sl vs sh ill n) (x : V4) (hl : sh.length ≤ 1000000) (B : Nat) (hB : w.heap[B]? = some (.cells x.cs.toArray 54 (0, 0))) (ty : TypeId) :
    ∃ r w', (Builtin.append_ #[24, 24] ty #[sl, .slice (some ⟨B, 0, none⟩) 1 1]).run Try.prog w = .ok r w' ∧
      (∃ g cap, r = .slice (some ⟨g, 0, none⟩) (vs.length + 1) cap ∧ w'.ownsRow 0 54 4 r (vs.length + 1) (c4 (vs ++ [x])) ∧ w.grownBy w' sl.ownBlock ∧ (sl.ownBlock = some g ∨ g = w.heap.size) ∧ NT w' g) := by
  obtain ⟨i0, hi, hz0, hz1, hz2⟩ := info_parts pageInfo
  have l0 := h.len
  obtain ⟨g, cap, w', hr, h2, h3, h4, h5⟩ := run_append_nt (P := Try.prog) w 24 ty 0 54 i0 zeroV 4 80 Try.underlying24 hi hz0 hz1 hz2 rfl (by decide) sl vs.length (c4 vs) h.own ⟨B, 0, none⟩ 1 1 x.cs rfl
    (fun j u hj => World.news_of_block hB j u (by simpa using hj)) (fun u hu => by simp [V4.cs] at hu; rcases hu with rfl | rfl | rfl | rfl <;> rfl) (by decide) (by unfold maxLen; omega) (by omega) (Nat.zero_le _)
    (fun u hu => by simp [zeroV, Value.cells] at hu; rcases hu with rfl | rfl <;> first | exact nt_bool _ | exact nt_slice _ _ _) h.nt (fun u hu => c4_nt [x] u (by simpa [c4] using hu))
  refine ⟨_, w', hr, g, cap, rfl, ?_, h3, h4, h5⟩
  have e : c4 (vs ++ [x]) = c4 vs ++ x.cs := by rw [c4_app]; simp [c4]
  rw [e]
  exact h2
/-- The shelf with that row. -/
theorem Shf.more {w w1 : World} {P : Nat} {sl : Value} {vs : List V4} {sh : List Pg} {ill n : Nat} {x : V4} {p : Pg} {g cap : Nat} (h : Shf w P sl vs sh ill n) (pv : Pv w x.agg p) (kp : Ps p.kids)
    (h2 : w1.ownsRow 0 54 4 (.slice (some ⟨g, 0, none⟩) (vs.length + 1) cap) (vs.length + 1) (c4 (vs ++ [x]))) (h3 : w.grownBy w1 sl.ownBlock) (h4 : sl.ownBlock = some g ∨ g = w.heap.size) (h5 : NT w1 g) :
    Shf (w1.setCell ⟨P, 0, none⟩ (.slice (some ⟨g, 0, none⟩) (vs.length + 1) cap)) P (.slice (some ⟨g, 0, none⟩) (vs.length + 1) cap) (vs ++ [x]) (sh ++ [p]) ill n ∧ Gw w (w1.setCell ⟨P, 0, none⟩ (.slice (some ⟨g, 0, none⟩) (vs.length + 1) cap)) P sl.ownBlock := by
  have lt := h.lt
  have gP : g ≠ P := by
    rcases h4 with q | q
    · intro e; exact h.ne (by rw [q, e])
    · omega
  have kP : w1.heap[P]? = w.heap[P]? := h3.block P lt (fun e => h.ne e.symm)
  have kc : ∀ i, w1.cell? ⟨P, i, none⟩ = w.cell? ⟨P, i, none⟩ := fun i => World.cell?_of_block (w := w) (a := ⟨P, i, none⟩) kP
  have G1 : Gw w w1 P sl.ownBlock := ⟨h3.os, h3.tape, h3.output, h3.size, fun i hi _ q => h3.block i hi q⟩
  have gs := grownBy_setCell w1 P 0 (.slice (some ⟨g, 0, none⟩) (vs.length + 1) cap)
  have G2' : Gw w1 (w1.setCell ⟨P, 0, none⟩ (.slice (some ⟨g, 0, none⟩) (vs.length + 1) cap)) P none := Gw.of_grown gs
  have G : Gw w (w1.setCell ⟨P, 0, none⟩ (.slice (some ⟨g, 0, none⟩) (vs.length + 1) cap)) P sl.ownBlock := G1.trans (G2'.any sl.ownBlock) (Or.inl rfl)
  have ne : ∀ i : Nat, i ≠ 0 → (⟨P, 0, none⟩ : Addr) ≠ ⟨P, i, none⟩ := fun i h k => by injection k with _ k; exact h k.symm
  refine ⟨⟨?_, ?_, ?_, fun i hi => ?_, fun i => ?_, ?_, by simp [h.len], fun i y q h6 h7 => ?_, fun q hq => ?_, fun e => gP (by simpa [Value.ownBlock] using e), fun b hb => ?_⟩, G⟩
  · exact World.cell?_setCell_same _ _ _ ((kc 0).trans h.c0)
  · rw [World.cell?_setCell_other _ _ _ _ (ne 1 (by decide)), kc]; exact h.c1
  · rw [World.cell?_setCell_other _ _ _ _ (ne 2 (by decide)), kc]; exact h.c2
  · rw [World.cell?_setCell_other _ _ _ _ (ne i (by omega)), kc]; exact h.past i hi
  · have := frozen_kept h.fz kP i
    simp [this]
  · have e : (vs ++ [x]).length = vs.length + 1 := by simp
    rw [e]
    exact h2.kept gs (Or.inr (by simpa [Value.ownBlock] using gP))
  · have l0 := h.len
    rcases Nat.lt_or_ge i vs.length with c | c
    · rw [List.getElem?_append_left c] at h6
      rw [List.getElem?_append_left (by omega)] at h7
      exact (h.pv i y q h6 h7).gw (h.kp q (List.mem_of_getElem? h7)) G h.ntP h.nt
    · have := lt_of_some h6
      simp at this
      obtain rfl : i = vs.length := by omega
      simp at h6
      rw [l0] at h7
      simp at h7
      subst h6 h7
      exact pv.gw kp G h.ntP h.nt
  · rcases List.mem_append.1 hq with q1 | q1
    · exact h.kp q q1
    · simp at q1; subst q1; exact kp
  · simp [Value.ownBlock] at hb
    subst hb
    exact h5.kept (gs.block _ (World.block_lt_of_cell? (w := w1) (a := ⟨g, 0, none⟩) (by
      have := h2.cells (g := g) rfl 0 (.bool (vs ++ [x])[0].lf) (by
        have e := c4_at (vs ++ [x]) 0 0 _ (List.getElem?_eq_getElem (by simp)) (by decide)
        simpa [V4.cs] using e)
      exact this)) (fun e => gP (Option.some.inj e)))
def AddP (w w' : World) (P : Nat) (sl : Value) (sh : List Pg) (ill n : Nat) : Prop := ∃ sl' vs', Shf w' P sl' vs' sh ill n ∧ Gw w w' P sl.ownBlock ∧ (sl'.ownBlock = sl.ownBlock ∨ ∃ g, sl'.ownBlock = some g ∧ w.heap.size ≤ g)

set_option maxRecDepth 100000 in
set_option maxHeartbeats 4000000 in
theorem sAdd_ok (P : Nat) (sl : Value) (vs : List V4) (sh : List Pg) (ill n : Nat) (v : Value) (p : Pg) (w : World) (h : Shf w P sl vs sh ill n) (hn : n ≤ 900000000) (hi : ill ≤ 1000000000) (hs : n + 1 ≠ ill) (hp : Pv w v p) (hk : Ps p.kids) (hl : sh.length ≤ 1000000) :
    Calls Try.prog 118 #[.pointer (some ⟨P, 0, none⟩), v] w fun e w' => e = .returned (.tuple #[.int .u64 ((sh.length + 1 : Nat) : Int), .int .i64 0]) ∧ AddP w w' P sl (sh ++ [p]) ill (n + 1) := by
  have K : Hid _ := fun W (b : Below w.heap.size w W) => sick_any P sl vs sh ill n W (h.below b) (by omega) hi false (decide_eq_false hs)
  have l0 : Hid _ := h.len
  have n3 : vs.length ≤ 1000000 := by rw [h.len]; exact hl
  have lt : Hid _ := h.lt
  have ob : Hid _ := h.newer
  obtain ⟨ka, kn, kc, va, vn, vc, ia, im, ic, rfl, h1, h2, h3⟩ := hp.ex
  obtain ⟨lf, hlf⟩ : ∃ lf, lf = p.leaf := ⟨_, rfl⟩
  rw [← hlf] at hp ⊢
  obtain ⟨x, hx⟩ : ∃ x : V4, x = ⟨lf, ka, kn, kc, va, vn, vc, ia, im, ic⟩ := ⟨_, rfl⟩
  have PV : Hid (Pv w x.agg p) := by rw [hx]; exact hp
  have XC : Hid (x.cs = [.bool lf, .slice ka kn kc, .slice va vn vc, .slice ia im ic]) := by rw [hx]; exact (rfl : V4.cs _ = _)
  have HH : Hid _ := h
  clear h hs hi h1 h2 h3 hp hx hlf
  go_enter Try.func118, Try.ntmps118
  go_upto_region 1 with fail
  have b0 : Hid _ := allocB w (.cells #[.bool lf, .slice ka kn kc, .slice va vn vc, .slice ia im ic] 54)
  have B0 : Hid _ := Bq.new w (.bool lf) (.slice ka kn kc) (.slice va vn vc) (.slice ia im ic) 54
  have z0 : Hid ((w.alloc (.cells #[.bool lf, .slice ka kn kc, .slice va vn vc, .slice ia im ic] 54)).heap.size = w.heap.size + 1) := (by simp : (w.alloc (.cells #[.bool lf, .slice ka kn kc, .slice va vn vc, .slice ia im ic] 54)).heap.size = w.heap.size + 1)
  generalize w.alloc (.cells #[.bool lf, .slice ka kn kc, .slice va vn vc, .slice ia im ic] 54) = w0 at *
  go_wp2_with fail
  refine Calls.mono (K.out w0 b0.out) ?_
  rintro e w1 ⟨rfl, S1, G1'⟩
  have G1 : Hid _ := G1'
  have g0 : Hid (w.heap.size ≠ P) := by have := lt.out; show w.heap.size ≠ P; omega
  have B1 : Hid _ := B0.out.gw G1' g0.out (by simp)
  have S2 : Hid _ := S1
  have PV1 : Hid _ := (PV.out.below b0.out).gw hk G1' (HH.out.below b0.out).ntP (fun b hb => by cases hb)
  clear S1 G1' K B0 PV
  go_upto_region 3 with fail
  refine wp_region_held_drew (S := (fun W => W.cell? ⟨w.heap.size, 0, none⟩ = some (.bool lf) ∧ W.cell? ⟨w.heap.size, 1, none⟩ = some (.slice ka kn kc) ∧ W.cell? ⟨w.heap.size, 2, none⟩ = some (.slice va vn vc) ∧ W.cell? ⟨w.heap.size, 3, none⟩ = some (.slice ia im ic))) (by kernel_rfl) (s4_of (B1.out.below (Below.refl w1.heap.size w1).drew).b4) (fun hHeld => ?_)
  have S3 : Hid _ := S2.out.below (Below.refl w1.heap.size w1).drew
  have PV3 : Hid _ := PV1.out.below (Below.refl w1.heap.size w1).drew
  have B3 : Hid _ := B1.out.below (Below.refl w1.heap.size w1).drew
  have G3 : Hid _ := G1.out.drew
  have z3 : Hid (w1.heap.size ≤ w1.drew.heap.size) := Nat.le_refl _
  clear S2 PV1 G1
  generalize w1.drew = w2 at *
  refine take2 rfl (i := 0) (v := (.pointer (some ⟨P, 0, none⟩))) (d := 8) rfl rfl (by kernel_rfl) (by kernel_rfl) (by kernel_rfl) (fun _ _ _ h => h) (Or.inl ⟨by rfl, ?_⟩) hHeld ?_
  · (intro W hW; (try dsimp only at hW); go_simp)
  try simp only [Act.put, List.setIfInBounds_toArray, List.set_cons_zero, List.set_cons_succ]
  refine take2 rfl (i := 1) (v := (.pointer (some ⟨P, 0, none⟩))) (d := 9) rfl rfl (by kernel_rfl) (by kernel_rfl) (by kernel_rfl) (fun _ _ _ h => h) (Or.inl ⟨by rfl, ?_⟩) hHeld ?_
  · (intro W hW; (try dsimp only at hW); go_simp)
  try simp only [Act.put, List.setIfInBounds_toArray, List.set_cons_zero, List.set_cons_succ]
  refine take2 rfl (i := 2) (v := (.pointer (some ⟨P, 0, none⟩))) (d := 10) rfl rfl (by kernel_rfl) (by kernel_rfl) (by kernel_rfl) (fun _ _ _ h => h) (Or.inl ⟨by rfl, ?_⟩) hHeld ?_
  · (intro W hW; (try dsimp only at hW); go_simp)
  try simp only [Act.put, List.setIfInBounds_toArray, List.set_cons_zero, List.set_cons_succ]
  refine take2 rfl (i := 3) (v := (.pointer (some ⟨P, 0, none⟩))) (d := 11) rfl rfl (by kernel_rfl) (by kernel_rfl) (by kernel_rfl) (fun _ _ _ h => h) (Or.inl ⟨by rfl, ?_⟩) hHeld ?_
  · (intro W hW; (try dsimp only at hW); go_simp)
  try simp only [Act.put, List.setIfInBounds_toArray, List.set_cons_zero, List.set_cons_succ]
  refine take2 rfl (i := 5) (v := (.agg #[.bool lf, .slice ka kn kc, .slice va vn vc, .slice ia im ic])) (d := 13) rfl rfl (by kernel_rfl) (by kernel_rfl) (by kernel_rfl) (fun _ _ _ h => h) (Or.inl ⟨by rfl, ?_⟩) hHeld ?_
  · (intro W hW; (try dsimp only at hW); go_simp)
  try simp only [Act.put, List.setIfInBounds_toArray, List.set_cons_zero, List.set_cons_succ]
  refine wpAnyH_ready (rs := [4, 6]) (by kernel_rfl) (by simp) ?_
  refine cons22 rfl rfl rfl (fun K9 hK => ?_) (fun K9 hK => ?_)
  · have c0 := S3.out.c0
    go_simp
    go_wp2_with fail
    refine hK.out _ _ (s4_of B3.out.b4) (fun hX => ?_)
    clear hK K9 hHeld
    have hHeld := hX
    clear hX
    try simp only [Act.put, List.setIfInBounds_toArray, List.set_cons_zero, List.set_cons_succ]
    clear c0
    refine wpAnyH_ready (rs := [6]) (by kernel_rfl) (by simp) ?_
    refine cons2 rfl rfl (fun K9 hK => ?_)
    go_simp
    have b4 : Hid _ := allocB w2 (.cells #[.bool lf, .slice ka kn kc, .slice va vn vc, .slice ia im ic] 54)
    have S4 : Hid _ := S3.out.below b4.out
    have PV4 : Hid _ := PV3.out.below b4.out
    have B4' : Hid _ := B3.out.below b4.out
    have G4 : Hid _ := G3.out.next b4.out
    have E4 : Hid _ := heap_alloc_new w2 (.cells #[.bool lf, .slice ka kn kc, .slice va vn vc, .slice ia im ic] 54)
    refine hK.out _ _ (s4_of B4'.out.b4) (fun hX => ?_)
    clear hK K9 hHeld
    have hHeld := hX
    clear hX
    try simp only [Act.put, List.setIfInBounds_toArray, List.set_cons_zero, List.set_cons_succ]
    generalize w2.alloc (.cells #[.bool lf, .slice ka kn kc, .slice va vn vc, .slice ia im ic] 54) = w4 at *
    clear S3 PV3 B3 G3
    have lt4 : Hid (some w.heap.size ≠ sl.ownBlock) := (fun e => ob.out _ (Nat.le_refl _) e.symm : some w.heap.size ≠ sl.ownBlock)
    refine wpAnyH_ready (rs := [7]) (by kernel_rfl) (by simp) ?_
    refine cons2 rfl rfl (fun K9 hK => ?_)
    refine step_append_nt w4 (by rfl) (.tmp 12) (.tmp 14) 24 (by rfl) sl (.slice (some ⟨w2.heap.size, 0, none⟩) 1 1) (by rfl) (by rfl) _ (S4.out.grow x (by rw [← l0.out]; exact n3) w2.heap.size (by rw [XC.out]; exact E4.out) _) ?_
    rintro r w5 ⟨g, cap, rfl, O5, R5', L5, N5⟩
    have R5 : Hid _ := R5'
    have B5 : Hid _ := B4'.out.kept (R5'.block w.heap.size B4'.out.lt lt4.out)
    have M : Hid _ := S4.out.more PV4.out hk O5 R5' L5 N5
    have c5 : w5.cell? ⟨P, 0, none⟩ = some sl := (World.cell?_of_block (w := w4) (a := ⟨P, 0, none⟩) (R5'.block P S4.out.lt (fun e => S4.out.ne e.symm))).trans S4.out.c0
    have f5 : ∀ i, w5.frozen? ⟨P, i, none⟩ = false := frozen_kept S4.out.fz (R5'.block P S4.out.lt (fun e => S4.out.ne e.symm))
    have o5 : Hid _ := L5
    clear O5 R5' L5 N5
    refine hK.out _ _ (s4_of B5.out.b4) (fun hX => ?_)
    clear hK K9 hHeld
    have hHeld := hX
    clear hX
    try simp only [Act.put, List.setIfInBounds_toArray, List.set_cons_zero, List.set_cons_succ]
    refine take2 rfl (i := 8) (v := (.pointer (some ⟨P, 0, none⟩))) (d := 16) rfl rfl (by kernel_rfl) (by kernel_rfl) (by kernel_rfl) (fun _ _ _ h => h) (Or.inl ⟨by rfl, ?_⟩) hHeld ?_
    · (intro W hW; (try dsimp only at hW); go_simp)
    try simp only [Act.put, List.setIfInBounds_toArray, List.set_cons_zero, List.set_cons_succ]
    refine take2 rfl (i := 9) (v := (.pointer (some ⟨P, 0, none⟩))) (d := 17) rfl rfl (by kernel_rfl) (by kernel_rfl) (by kernel_rfl) (fun _ _ _ h => h) (Or.inl ⟨by rfl, ?_⟩) hHeld ?_
    · (intro W hW; (try dsimp only at hW); go_simp)
    try simp only [Act.put, List.setIfInBounds_toArray, List.set_cons_zero, List.set_cons_succ]
    refine wpAnyH_ready (rs := [10]) (by kernel_rfl) (by simp) ?_
    refine cons2 rfl rfl (fun K9 hK => ?_)
    go_simp
    have B6 : Hid _ := B4'.out.gw M.out.2 g0.out lt4.out
    refine hK.out _ _ (s4_of B6.out.b4) (fun hX => ?_)
    clear hK K9 hHeld hX c5 f5
    try simp only [Act.put, List.setIfInBounds_toArray, List.set_cons_zero, List.set_cons_succ]
    refine wpAnyH_done (by kernel_rfl) ?_ _
    generalize w5.setCell ⟨P, 0, none⟩ (.slice (some ⟨g, 0, none⟩) (vs.length + 1) cap) = w6 at *
    have c6 := M.out.1.c0
    go_wp2
    go_ret2
    refine ⟨?_, _, _, M.out.1, (Gw.ahead b0.out (G4.out.any _)).trans M.out.2 (Or.inl rfl), ?_⟩
    · rw [← l0.out]; rfl
    · rcases o5.out with q | q
      · exact Or.inl q.symm
      · exact Or.inr ⟨g, rfl, by have := z0.out; have := b0.out.size; have := G4.out.size; omega⟩
  · go_simp
    have b4 : Hid _ := allocB w2 (.cells #[.bool lf, .slice ka kn kc, .slice va vn vc, .slice ia im ic] 54)
    have S4 : Hid _ := S3.out.below b4.out
    have PV4 : Hid _ := PV3.out.below b4.out
    have B4' : Hid _ := B3.out.below b4.out
    have G4 : Hid _ := G3.out.next b4.out
    have E4 : Hid _ := heap_alloc_new w2 (.cells #[.bool lf, .slice ka kn kc, .slice va vn vc, .slice ia im ic] 54)
    refine hK.out _ _ (s4_of B4'.out.b4) (fun hX => ?_)
    clear hK K9 hHeld
    have hHeld := hX
    clear hX
    try simp only [Act.put, List.setIfInBounds_toArray, List.set_cons_zero, List.set_cons_succ]
    generalize w2.alloc (.cells #[.bool lf, .slice ka kn kc, .slice va vn vc, .slice ia im ic] 54) = w4 at *
    have c0 := S4.out.c0
    refine wpAnyH_ready (rs := [4]) (by kernel_rfl) (by simp) ?_
    refine cons2 rfl rfl (fun K9 hK => ?_)
    go_simp
    go_wp2_with fail
    refine hK.out _ _ (s4_of B4'.out.b4) (fun hX => ?_)
    clear hK K9 hHeld
    have hHeld := hX
    clear hX
    try simp only [Act.put, List.setIfInBounds_toArray, List.set_cons_zero, List.set_cons_succ]
    clear c0
    clear S3 PV3 B3 G3
    have lt4 : Hid (some w.heap.size ≠ sl.ownBlock) := (fun e => ob.out _ (Nat.le_refl _) e.symm : some w.heap.size ≠ sl.ownBlock)
    refine wpAnyH_ready (rs := [7]) (by kernel_rfl) (by simp) ?_
    refine cons2 rfl rfl (fun K9 hK => ?_)
    refine step_append_nt w4 (by rfl) (.tmp 12) (.tmp 14) 24 (by rfl) sl (.slice (some ⟨w2.heap.size, 0, none⟩) 1 1) (by rfl) (by rfl) _ (S4.out.grow x (by rw [← l0.out]; exact n3) w2.heap.size (by rw [XC.out]; exact E4.out) _) ?_
    rintro r w5 ⟨g, cap, rfl, O5, R5', L5, N5⟩
    have R5 : Hid _ := R5'
    have B5 : Hid _ := B4'.out.kept (R5'.block w.heap.size B4'.out.lt lt4.out)
    have M : Hid _ := S4.out.more PV4.out hk O5 R5' L5 N5
    have c5 : w5.cell? ⟨P, 0, none⟩ = some sl := (World.cell?_of_block (w := w4) (a := ⟨P, 0, none⟩) (R5'.block P S4.out.lt (fun e => S4.out.ne e.symm))).trans S4.out.c0
    have f5 : ∀ i, w5.frozen? ⟨P, i, none⟩ = false := frozen_kept S4.out.fz (R5'.block P S4.out.lt (fun e => S4.out.ne e.symm))
    have o5 : Hid _ := L5
    clear O5 R5' L5 N5
    refine hK.out _ _ (s4_of B5.out.b4) (fun hX => ?_)
    clear hK K9 hHeld
    have hHeld := hX
    clear hX
    try simp only [Act.put, List.setIfInBounds_toArray, List.set_cons_zero, List.set_cons_succ]
    refine take2 rfl (i := 8) (v := (.pointer (some ⟨P, 0, none⟩))) (d := 16) rfl rfl (by kernel_rfl) (by kernel_rfl) (by kernel_rfl) (fun _ _ _ h => h) (Or.inl ⟨by rfl, ?_⟩) hHeld ?_
    · (intro W hW; (try dsimp only at hW); go_simp)
    try simp only [Act.put, List.setIfInBounds_toArray, List.set_cons_zero, List.set_cons_succ]
    refine take2 rfl (i := 9) (v := (.pointer (some ⟨P, 0, none⟩))) (d := 17) rfl rfl (by kernel_rfl) (by kernel_rfl) (by kernel_rfl) (fun _ _ _ h => h) (Or.inl ⟨by rfl, ?_⟩) hHeld ?_
    · (intro W hW; (try dsimp only at hW); go_simp)
    try simp only [Act.put, List.setIfInBounds_toArray, List.set_cons_zero, List.set_cons_succ]
    refine wpAnyH_ready (rs := [10]) (by kernel_rfl) (by simp) ?_
    refine cons2 rfl rfl (fun K9 hK => ?_)
    go_simp
    have B6 : Hid _ := B4'.out.gw M.out.2 g0.out lt4.out
    refine hK.out _ _ (s4_of B6.out.b4) (fun hX => ?_)
    clear hK K9 hHeld hX c5 f5
    try simp only [Act.put, List.setIfInBounds_toArray, List.set_cons_zero, List.set_cons_succ]
    refine wpAnyH_done (by kernel_rfl) ?_ _
    generalize w5.setCell ⟨P, 0, none⟩ (.slice (some ⟨g, 0, none⟩) (vs.length + 1) cap) = w6 at *
    have c6 := M.out.1.c0
    go_wp2
    go_ret2
    refine ⟨?_, _, _, M.out.1, (Gw.ahead b0.out (G4.out.any _)).trans M.out.2 (Or.inl rfl), ?_⟩
    · rw [← l0.out]; rfl
    · rcases o5.out with q | q
      · exact Or.inl q.symm
      · exact Or.inr ⟨g, rfl, by have := z0.out; have := b0.out.size; have := G4.out.size; omega⟩

end Go.Proofs.Ythdjghmipepppaa

namespace Go.Proofs.Ythdjghmipepppaa
open Go.RowKit
set_option linter.unusedVariables false
set_option linter.unusedSimpArgs false

/-- The shelf as an interface's value. -/
def ifP (P : Nat) : Value := .iface 23 (.pointer (some ⟨P, 0, none⟩))
/-- A reader: the first two cells of a block. -/
structure Rdr (w : World) (R P c : Nat) : Prop where
  r0 : w.cell? ⟨R, 0, none⟩ = some (ifP P)
  r1 : w.cell? ⟨R, 1, none⟩ = some (.int .i64 (c : Nat))
  fz : ∀ i, w.frozen? ⟨R, i, none⟩ = false
theorem Rdr.lt {w : World} {R P c : Nat} (h : Rdr w R P c) : R < w.heap.size := World.block_lt_of_cell? _ _ h.r0
theorem Rdr.kept {w w' : World} {R P c : Nat} (h : Rdr w R P c) (k : w'.heap[R]? = w.heap[R]?) : Rdr w' R P c :=
  ⟨(World.cell?_of_block (w := w) (a := ⟨R, 0, none⟩) k).trans h.r0, (World.cell?_of_block (w := w) (a := ⟨R, 1, none⟩) k).trans h.r1, frozen_kept h.fz k⟩
theorem Rdr.below {w w' : World} {R P c : Nat} (h : Rdr w R P c) (b : Below w.heap.size w w') : Rdr w' R P c := h.kept (b.block R h.lt)
theorem Rdr.tick {w : World} {R P c : Nat} (h : Rdr w R P c) : Rdr (w.setCell ⟨R, 1, none⟩ (.int .i64 ((c + 1 : Nat) : Int))) R P (c + 1) ∧ (∀ i, i ≠ 1 → (w.setCell ⟨R, 1, none⟩ (.int .i64 ((c + 1 : Nat) : Int))).cell? ⟨R, i, none⟩ = w.cell? ⟨R, i, none⟩) ∧ w.grownBy (w.setCell ⟨R, 1, none⟩ (.int .i64 ((c + 1 : Nat) : Int))) (some R) := by
  have ne : ∀ i : Nat, i ≠ 1 → (⟨R, 1, none⟩ : Addr) ≠ ⟨R, i, none⟩ := fun i h k => by injection k with _ k; exact h k.symm
  refine ⟨⟨?_, World.cell?_setCell_same _ _ _ h.r1, fun i => by simp [h.fz]⟩, fun i hi => World.cell?_setCell_other _ _ _ _ (ne i hi), grownBy_setCell w R 1 _⟩
  rw [World.cell?_setCell_other _ _ _ _ (ne 0 (by decide))]
  exact h.r0
/-- All that a page's reading leaves. -/
structure Rd7 (w w' : World) (R P : Nat) (sl : Value) (vs : List V4) (sh : List Pg) (ill n c : Nat) : Prop where
  shf : Shf w' P sl vs sh ill n
  rdr : Rdr w' R P c
  cell : ∀ i, i ≠ 1 → w'.cell? ⟨R, i, none⟩ = w.cell? ⟨R, i, none⟩
  gw : Gw w w' P (some R)

set_option maxRecDepth 100000 in
set_option maxHeartbeats 2000000 in
theorem Gpage_ok (R P : Nat) (sl : Value) (vs : List V4) (sh : List Pg) (ill n k c lv : Nat) (p : Pg) (w : World) (h : Shf w P sl vs sh ill n) (r : Rdr w R P c) (hn : n ≤ 900000000) (hi : ill ≤ 1000000000) (hs : n + 1 ≠ ill) (hk : pgAt sh k = some p) (hl : sh.length ≤ 9223372036854775807)
    (hR : R ≠ P) (hO : sl.ownBlock ≠ some R) (hV : OffV vs R) (hc : c < 4096) (hlv : lv ≤ 20) (hg : goodB p = true) (hb : Bd p) :
    Calls Try.prog 66 #[.pointer (some ⟨R, 0, none⟩), .int .u64 (k : Nat), .int .i64 (lv : Nat)] w fun e w' => ∃ x : V4, e = .returned (.tuple #[x.agg, .int .i64 0]) ∧ x ∈ vs ∧ Pv w' x.agg p ∧ Rd7 w w' R P sl vs sh ill (n + 1) (c + 1) := by
  have n1 : (c : Int) < 4096 := by omega
  have n2 : (lv : Int) ≤ 20 := by omega
  have n4 : ((c : Int) == 4096) = false := by simp; omega
  have K1 : Hid _ := fun W (S : Shf W P sl vs sh ill n) => sPage_ok P sl vs sh ill n k p W S hn hi hs hk hl
  have K2 : Hid _ := fun v W (S : Pv W v p) => Good_any v p W S hb
  rw [hg] at K2
  have H : Hid _ := h
  have RR : Hid _ := r
  have lt : Hid _ := h.lt
  have rlt : Hid _ := r.lt
  clear h hk hg hb hi hs r hl hn
  go_enter Try.func66, Try.ntmps66
  go_upto_region 1 with fail
  have b0 : Hid _ := allocB w (.cells #[.bool false, .slice none 0 0, .slice none 0 0, .slice none 0 0] 54)
  have B0 : Hid _ := Bq.new w (.bool false) (.slice none 0 0) (.slice none 0 0) (.slice none 0 0) 54
  have H0 : Hid _ := H.out.below b0.out
  have R0 : Hid _ := RR.out.below b0.out
  generalize w.alloc (.cells #[.bool false, .slice none 0 0, .slice none 0 0, .slice none 0 0] 54) = w0 at *
  obtain ⟨r0, r1, rf⟩ := R0.out
  have T : Hid _ := R0.out.tick
  have e1 : ((c + 1 : Nat) : Int) = (c : Int) + 1 := by omega
  rw [e1] at T
  go_upto_region 4 with fail
  clear r0 r1 rf R0 RR
  have S1 : Hid _ := H0.out.far' T.out.2.2 hR hO hV
  have B1 : Hid _ := B0.out.kept (T.out.2.2.block w.heap.size B0.out.lt (fun e => by have := Option.some.inj e; have := rlt.out; omega))
  generalize w0.setCell ⟨R, 1, none⟩ (.int .i64 ((c : Int) + 1)) = w1 at *
  have r0 := T.out.1.r0
  unfold ifP at r0
  go_wp2_with fail
  refine Calls.mono (K1.out w1 S1.out) ?_
  rintro e w2 ⟨x, rfl, hm', pv', S2', G2'⟩
  have hm : Hid _ := hm'
  have pv : Hid _ := pv'
  have S2 : Hid _ := S2'
  have G2 : Hid _ := G2'
  clear hm' pv' S2' G2' r0
  have ofx : Hid (Off x.agg w.heap.size) := H.out.offNew (Nat.le_refl _) x hm.out
  obtain ⟨lf, ka, kn, kc, va, vn, vc, ia, im, ic⟩ := x
  have b3' : Hid _ := allocB w2 (.cells #[.bool lf, .slice ka kn kc, .slice va vn vc, .slice ia im ic] 54)
  have B3 : Hid _ := Bq.new w2 (.bool lf) (.slice ka kn kc) (.slice va vn vc) (.slice ia im ic) 54
  have g0 : Hid (w.heap.size ≠ P) := (by have := lt.out; omega : w.heap.size ≠ P)
  have B2 : Hid _ := B1.out.gw G2.out g0.out (by simp)
  unfold V4.agg
  simp only
  go_upto_region 5 with fail
  generalize w2.alloc (.cells #[.bool lf, .slice ka kn kc, .slice va vn vc, .slice ia im ic] 54) = w3 at *
  have pv3 : Hid _ := pv.out.below b3'.out
  obtain ⟨y0, y1, y2, y3⟩ := B3.out.b4
  go_wp2_with fail
  refine Calls.mono (K2.out _ w3 pv3.out) ?_
  rintro e w4 ⟨rfl, b4'⟩
  have b4 : Hid _ := b4'
  have z4 : Hid _ := B3.out.below b4'
  clear y0 y1 y2 y3 b4'
  obtain ⟨y0, y1, y2, y3⟩ := z4.out.b4
  have B4' : Hid _ := (B2.out.below b3'.out).below b4.out
  obtain ⟨u0, u1, u2, u3⟩ := B4'.out.b4
  have uz := B4'.out.fz
  have X : Hid _ := B4'.out.put (.bool lf) (.slice ka kn kc) (.slice va vn vc) (.slice ia im ic)
  have b24 : Hid _ := nextB b3'.out b4.out
  have Y : Hid _ := And.intro ((pv3.out.below b4.out).out X.out.2 ofx.out) (And.intro ((S2.out.below b24.out).far' X.out.2 g0.out (H.out.newer _ (Nat.le_refl _)) (H.out.offNew (Nat.le_refl _))) (Gw.store (((Gw.of_below b0.out P (some R)).trans ((Gw.of_grown T.out.2.2 |> fun g => (⟨g.os, g.tape, g.output, g.size, fun i hi q1 q2 => g.block i hi (fun e => q2 (by rw [e])) (by simp)⟩ : Gw w0 w1 P (some R)))) (Or.inl rfl)).trans ((G2.out.next b24.out).any (some R)) (Or.inl rfl)) X.out.2 (Nat.le_refl _)))
  unfold st4 at X Y
  go_wp2
  generalize (((w4.setCell ⟨w.heap.size, 0, none⟩ (.bool lf)).setCell ⟨w.heap.size, 1, none⟩ (.slice ka kn kc)).setCell ⟨w.heap.size, 2, none⟩ (.slice va vn vc)).setCell ⟨w.heap.size, 3, none⟩ (.slice ia im ic) = w5 at *
  obtain ⟨t0, t1, t2, t3⟩ := X.out.1.b4
  have kR : Hid (w5.heap[R]? = w1.heap[R]?) := by
    have lt1 := T.out.1.lt
    have q1 := G2.out.block R lt1 hR (by simp)
    have q2 := b24.out.block R (Nat.lt_of_lt_of_le lt1 G2.out.size)
    have q3 := X.out.2.block R (Nat.lt_of_lt_of_le (Nat.lt_of_lt_of_le lt1 G2.out.size) b24.out.size) (fun e => by have := Option.some.inj e; have := rlt.out; omega)
    exact q3.trans (q2.trans q1)
  refine bodyPost_ret (v := .tuple #[.agg #[.bool lf, .slice ka kn kc, .slice va vn vc, .slice ia im ic], .int .i64 0]) (by simp [results, Try.results66, go_sem, t0, t1, t2, t3]) rfl ⟨⟨lf, ka, kn, kc, va, vn, vc, ia, im, ic⟩, rfl, hm.out, Y.out.1, Y.out.2.1, T.out.1.kept kR.out, fun i hi => ?_, Y.out.2.2⟩
  rw [World.cell?_of_block (w := w1) (a := ⟨R, i, none⟩) kR.out, T.out.2.1 i hi]
  exact World.cell?_of_block (w := w) (a := ⟨R, i, none⟩) (b0.out.block R rlt.out)

end Go.Proofs.Ythdjghmipepppaa

namespace Go.Proofs.Ythdjghmipepppaa
open Go.RowKit
set_option linter.unusedVariables false
set_option linter.unusedSimpArgs false

theorem tot_mul : ∀ (ss : List ByteArray) (m : Nat), (∀ s ∈ ss, s.size ≤ m) → tot ss ≤ m * ss.length
  | [], m, _ => by simp [tot]
  | s :: ss, m, h => by
    have a := tot_mul ss m (fun x hx => h x (by simp [hx]))
    have b := h s (by simp)
    simp only [tot, List.length_cons, Nat.mul_add]
    omega
theorem tot_szs : ∀ (ks vs : List ByteArray), vs.length = ks.length → tot vs ≤ sumL (szs ks vs)
  | [], [], _ => by simp [tot]
  | k :: ks, v :: vs, h => by
    have a := tot_szs ks vs (by simpa using h)
    have b := encS_len v
    simp only [tot, szs, sumL, List.length_append]
    omega
  | [], _ :: _, h => by simp at h
  | _ :: _, [], h => by simp at h
/-- A good page that is not too great fits. -/
theorem fit_of {p : Pg} (g : goodB p = true) (n : p.keys.length ≤ 127) (hb : p.leaf = true → (encP p).length ≤ 1350) (hk : ∀ k ∈ p.kids, k < 18446744073709551616) : Fit p := by
  obtain ⟨rs, z⟩ := leaf_keys g
  have tk : tot p.keys ≤ 40 * p.keys.length := tot_mul _ _ (kz_mem z)
  cases l : p.leaf with
  | true =>
    obtain ⟨e1, e2⟩ := goodB_leaf g l
    have b := hb l
    have tv : tot p.vals ≤ 1350 := by
      have := tot_szs p.keys p.vals e1
      rw [encP_leaf l, List.length_append, szs_sum] at b
      omega
    exact ⟨by omega, by omega, by rw [e2]; simp, by omega, by omega, hk, fun _ => e1⟩
  | false =>
    obtain ⟨e1, e2⟩ := goodB_branch g l
    exact ⟨by omega, by rw [e1]; simp, by omega, by omega, by rw [e1]; simp [tot], hk, fun q => by rw [l] at q; cases q⟩
/-- A tree's page. -/
theorem Tr.top {sh : List Pg} {r k : Nat} {L : List It} {f : Nat} (h : Tr sh r k L f) (hL : L.length ≤ 127) (hs : sh.length ≤ 9223372036854775807) : ∃ r' p, r = r' + 1 ∧ pgAt sh k = some p ∧ goodB p = true ∧ Fit p ∧ p.keys.length ≤ 127 ∧ Ps p.kids ∧
    ((p.leaf = true ∧ L = zipK p.keys p.vals ∧ (encP p).length ≤ 900) ∨ (p.leaf = false ∧ 1 ≤ p.keys.length ∧ ∃ S, p.kids = S.map (·.n) ∧ L = lall S ∧ Bt (Tr sh r') p.keys S)) := by
  cases r with
  | zero => exact False.elim h
  | succ r =>
    obtain ⟨p, h1, hp, h3⟩ := h
    obtain ⟨g, ne, ⟨l, rfl, rfl⟩ | ⟨l, S, e1, rfl, rfl, bt⟩⟩ := hp
    · obtain ⟨e2, e3⟩ := goodB_leaf g l
      have zl := zipK_len e2
      refine ⟨r, p, rfl, h1, g, fit_of g (by omega) (fun _ => by have := h3 l; omega) (fun k hk => by rw [e3] at hk; simp at hk), by omega, fun k hk => by rw [e3] at hk; simp at hk, Or.inl ⟨l, rfl, h3 l⟩⟩
    · have few := bt.few
      have hl := bt.len
      have num : ∀ k ∈ p.kids, 0 < k ∧ k ≤ sh.length := fun k hk => by
        rw [e1] at hk
        obtain ⟨s, hs', rfl⟩ := List.mem_map.1 hk
        obtain ⟨j, hj, rfl⟩ := List.mem_iff_getElem.1 hs'
        exact (bt.ok j _ (List.getElem?_eq_getElem hj)).1.num
      have k1 : 1 ≤ p.keys.length := List.length_pos_iff.2 ne
      refine ⟨r, p, rfl, h1, g, fit_of g (by omega) (fun q => by rw [l] at q; cases q) (fun k hk => by have := num k hk; omega), by omega, fun k hk => (num k hk).1, Or.inr ⟨l, k1, S, e1, rfl, bt⟩⟩
/-- Going on with the kid that has a key. -/
theorem Tr.kid {sh : List Pg} {r : Nat} {p : Pg} {S : List Seg} (g : goodB p = true) (e1 : p.kids = S.map (·.n)) (bt : Bt (Tr sh r) p.keys S) (k : ByteArray) : ∃ L f, Tr sh r (p.kids.getD (plS p.keys k) 0) L f ∧ L.length ≤ (lall S).length ∧ plS p.keys k < p.kids.length := by
  have hl := bt.len
  have pl := plS_le p.keys k
  obtain ⟨s, hsi⟩ : ∃ s, S[plS p.keys k]? = some s := ⟨_, List.getElem?_eq_getElem (by omega)⟩
  have gd : p.kids.getD (plS p.keys k) 0 = s.n := by rw [e1]; exact getD_map hsi
  refine ⟨s.L, s.f, by rw [gd]; exact (bt.ok _ s hsi).1, ?_, by rw [e1, List.length_map]; omega⟩
  rw [lall_at hsi]
  simp only [List.length_append]
  omega

/-- Steps as cells. -/
def s5 (x : V4 × Nat) : List Value := x.1.cs ++ [.int .i64 (x.2 : Nat)]
def c5 (l : List (V4 × Nat)) : List Value := l.flatMap s5
theorem c5_len : ∀ l : List (V4 × Nat), (c5 l).length = l.length * 5
  | [] => rfl
  | x :: l => by
    have := c5_len l
    unfold c5 at this ⊢
    simp only [List.flatMap_cons, List.length_append, List.length_cons, this]
    simp [s5, V4.cs]
    omega
theorem c5_app (a b : List (V4 × Nat)) : c5 (a ++ b) = c5 a ++ c5 b := by unfold c5; rw [List.flatMap_append]
theorem c5_at : ∀ (l : List (V4 × Nat)) (i j : Nat) (x : V4 × Nat), l[i]? = some x → j < 5 → (c5 l)[i * 5 + j]? = (s5 x)[j]?
  | [], i, j, x, h, _ => by simp at h
  | y :: l, 0, j, x, h, hj => by
    simp at h
    subst h
    unfold c5
    rw [List.flatMap_cons, Nat.zero_mul, Nat.zero_add, List.getElem?_append_left (by simp [s5, V4.cs]; omega)]
  | y :: l, i + 1, j, x, h, hj => by
    have := c5_at l i j x (by simpa using h) hj
    unfold c5 at this ⊢
    rw [List.flatMap_cons, List.getElem?_append_right (by simp [s5, V4.cs]; omega)]
    have e : (i + 1) * 5 + j - (s5 y).length = i * 5 + j := by simp [s5, V4.cs]; omega
    rw [e]
    exact this
theorem s5_nt (x : V4 × Nat) : ∀ u ∈ s5 x, nt u := by
  intro u hu
  simp [s5, V4.cs] at hu
  rcases hu with rfl | rfl | rfl | rfl | rfl
  · exact nt_bool _
  · exact nt_slice _ _ _
  · exact nt_slice _ _ _
  · exact nt_slice _ _ _
  · exact nt_i64 _
/-- Steps in memory of a call's own. -/
structure Stp (w : World) (base : Nat) (v : Value) (sts : List (V4 × Nat)) (pre : List (Pg × Nat)) : Prop where
  own : w.ownsRow base 119 5 v sts.length (c5 sts)
  len : sts.length = pre.length
  pv : ∀ (j : Nat) (x : V4 × Nat) (p : Pg × Nat), sts[j]? = some x → pre[j]? = some p → Pv w x.1.agg p.1 ∧ x.2 = p.2
  nt : ∀ g, v.ownBlock = some g → NT w g
theorem Stp.nil (w : World) (base : Nat) : Stp w base (.slice none 0 0) [] [] := ⟨World.ownsRow_nil w base _ _, rfl, fun j x p h => by simp at h, fun g hg => by simp [Value.ownBlock] at hg⟩
theorem Stp.sl {w : World} {base : Nat} {v : Value} {sts : List (V4 × Nat)} {pre : List (Pg × Nat)} (h : Stp w base v sts pre) : ∃ a c, v = .slice a sts.length c := by
  rcases h.own.2 with ⟨h0, h1⟩ | ⟨g, cap, cur, hv, _⟩
  · exact ⟨none, 0, by rw [h0, h1]⟩
  · exact ⟨_, _, hv⟩
theorem Stp.below {w w' : World} {base : Nat} {v : Value} {sts : List (V4 × Nat)} {pre : List (Pg × Nat)} (h : Stp w base v sts pre) (b : Below w.heap.size w w') : Stp w' base v sts pre := by
  refine ⟨⟨h.own.1, ?_⟩, h.len, fun j x p h1 h2 => ⟨(h.pv j x p h1 h2).1.below b, (h.pv j x p h1 h2).2⟩, fun g hg => (h.nt g hg).kept (b.block g (h.own.lt g hg).2)⟩
  rcases h.own.2 with hn | ⟨g, cap, cur, hv, hb, hg, rest⟩
  · exact .inl hn
  · exact .inr ⟨g, cap, cur, hv, hb, by rw [b.block g (Array.getElem?_eq_some_iff.1 hg).1]; exact hg, rest⟩
/-- While the shelf, and what is no part of the steps, changes. -/
theorem Stp.gw {w w' : World} {P base : Nat} {o : Option Nat} {v : Value} {sts : List (V4 × Nat)} {pre : List (Pg × Nat)} (h : Stp w base v sts pre) (g : Gw w w' P o) (h1 : v.ownBlock ≠ some P) (h2 : v.ownBlock = none ∨ v.ownBlock ≠ o) (kp : ∀ p ∈ pre, Ps p.1.kids) (n1 : NT w P) (n2 : ∀ b, o = some b → NT w b) : Stp w' base v sts pre := by
  have key : ∀ b, v.ownBlock = some b → w'.heap[b]? = w.heap[b]? := fun b hb => g.block b (h.own.lt b hb).2 (fun e => h1 (by rw [hb, e])) (fun e => by
    rcases h2 with q | q
    · rw [hb] at q; cases q
    · exact q (by rw [hb, e]))
  refine ⟨⟨h.own.1, ?_⟩, h.len, fun j x p q1 q2 => ⟨(h.pv j x p q1 q2).1.gw (kp p (List.mem_of_getElem? q2)) g n1 n2, (h.pv j x p q1 q2).2⟩, fun b hb => (h.nt b hb).kept (key b hb)⟩
  rcases h.own.2 with hn | ⟨b, cap, cur, hv, hb, hg, rest⟩
  · exact .inl hn
  · exact .inr ⟨b, cap, cur, hv, hb, by rw [key b (by rw [hv]; rfl)]; exact hg, rest⟩
theorem stepInfo : (Try.prog.info? 119).map (fun i => (i.zero, i.size, i.bytes)) = some (some (.agg #[.bool false, .slice none 0 0, .slice none 0 0, .slice none 0 0, .int .i64 0]), 5, 88) := by kernel_rfl
/-- One step more. -/
theorem Stp.more {w : World} {base : Nat} {v : Value} {sts : List (V4 × Nat)} {pre : List (Pg × Nat)} (h : Stp w base v sts pre) (x : V4 × Nat) (p : Pg × Nat) (pv : Pv w x.1.agg p.1) (e : x.2 = p.2) (kp : ∀ q ∈ pre, Ps q.1.kids) (kp' : Ps p.1.kids) (hl : sts.length ≤ 1000000) (B : Nat) (hB : w.heap[B]? = some (.cells (s5 x).toArray 119 (0, 0))) (hbase : base ≤ w.heap.size) (ty : TypeId) :
    ∃ r w', (Builtin.append_ #[83, 83] ty #[v, .slice (some ⟨B, 0, none⟩) 1 1]).run Try.prog w = .ok r w' ∧
      (∃ g cap, r = .slice (some ⟨g, 0, none⟩) (sts.length + 1) cap ∧ Stp w' base r (sts ++ [x]) (pre ++ [p]) ∧ w.grownBy w' v.ownBlock ∧ (v.ownBlock = some g ∨ g = w.heap.size)) := by
  obtain ⟨i0, hi, hz0, hz1, hz2⟩ := info_parts stepInfo
  obtain ⟨g, cap, w', hr, h2, h3, h4, h5⟩ := run_append_nt (P := Try.prog) w 83 ty base 119 i0 _ 5 88 Try.underlying83 hi hz0 hz1 hz2 rfl (by decide) v sts.length (c5 sts) h.own ⟨B, 0, none⟩ 1 1 (s5 x) rfl
    (fun j u hj => World.news_of_block hB j u (by simpa using hj)) (fun u hu => by simp [s5, V4.cs] at hu; rcases hu with rfl | rfl | rfl | rfl | rfl <;> rfl) (by decide) (by unfold maxLen; omega) (by omega) hbase
    (fun u hu => by simp [Value.cells] at hu; rcases hu with rfl | rfl | rfl <;> first | exact nt_bool _ | exact nt_slice _ _ _ | exact nt_i64 _) h.nt (s5_nt x)
  refine ⟨_, w', hr, g, cap, rfl, ?_, h3, h4⟩
  have ec : c5 (sts ++ [x]) = c5 sts ++ s5 x := by rw [c5_app]; simp [c5]
  have el : (sts ++ [x]).length = sts.length + 1 := by simp
  have l0 := h.len
  have G : ∀ P', v.ownBlock = some P' → Gw w w' P' none := fun P' e => by rw [e] at h3; exact Gw.of_grown h3
  have keep : ∀ {y : V4} {q : Pg}, Pv w y.agg q → Ps q.kids → Pv w' y.agg q := fun {y q} k kq => by
    cases ob : v.ownBlock with
    | none =>
      rw [ob] at h3
      exact k.below ⟨h3.os, h3.tape, h3.output, h3.size, fun b hb => h3.block b hb (by simp)⟩
    | some b => exact k.gw kq (G b ob) (h.nt b ob) (fun c hc => by cases hc)
  refine ⟨by rw [ec, el]; exact h2, by simp [l0], fun j y q q1 q2 => ?_, fun b hb => by simp [Value.ownBlock] at hb; subst hb; exact h5⟩
  rcases Nat.lt_or_ge j sts.length with c | c
  · rw [List.getElem?_append_left c] at q1
    rw [List.getElem?_append_left (by omega)] at q2
    exact ⟨keep (h.pv j y q q1 q2).1 (kp q (List.mem_of_getElem? q2)), (h.pv j y q q1 q2).2⟩
  · have := lt_of_some q1
    simp at this
    obtain rfl : j = sts.length := by omega
    simp at q1
    rw [l0] at q2
    simp at q2
    subst q1 q2
    exact ⟨keep pv kp', e⟩

set_option maxRecDepth 100000 in
set_option maxHeartbeats 2000000 in
theorem Gpage_ill (R P : Nat) (sl : Value) (vs : List V4) (sh : List Pg) (ill n k c lv : Nat) (w : World) (h : Shf w P sl vs sh ill n) (r : Rdr w R P c) (hn : n ≤ 900000000) (hs : n + 1 = ill)
    (hR : R ≠ P) (hO : sl.ownBlock ≠ some R) (hV : OffV vs R) (hc : c < 4096) (hlv : lv ≤ 20) :
    Calls Try.prog 66 #[.pointer (some ⟨R, 0, none⟩), .int .u64 (k : Nat), .int .i64 (lv : Nat)] w fun e w' => e = .returned (.tuple #[zeroV, .int .i64 4]) ∧ Rd7 w w' R P sl vs sh ill (n + 1) (c + 1) := by
  have n1 : (c : Int) < 4096 := by omega
  have n2 : (lv : Int) ≤ 20 := by omega
  have n4 : ((c : Int) == 4096) = false := by simp; omega
  have K1 : Hid _ := fun W (S : Shf W P sl vs sh ill n) => sPage_ill P sl vs sh ill n k W S hn hs
  have H : Hid _ := h
  have RR : Hid _ := r
  have lt : Hid _ := h.lt
  have rlt : Hid _ := r.lt
  clear h hs r hn
  go_enter Try.func66, Try.ntmps66
  go_upto_region 1 with fail
  have b0 : Hid _ := allocB w (.cells #[.bool false, .slice none 0 0, .slice none 0 0, .slice none 0 0] 54)
  have B0 : Hid _ := Bq.new w (.bool false) (.slice none 0 0) (.slice none 0 0) (.slice none 0 0) 54
  have H0 : Hid _ := H.out.below b0.out
  have R0 : Hid _ := RR.out.below b0.out
  generalize w.alloc (.cells #[.bool false, .slice none 0 0, .slice none 0 0, .slice none 0 0] 54) = w0 at *
  obtain ⟨r0, r1, rf⟩ := R0.out
  have T : Hid _ := R0.out.tick
  have e1 : ((c + 1 : Nat) : Int) = (c : Int) + 1 := by omega
  rw [e1] at T
  go_upto_region 4 with fail
  clear r0 r1 rf R0 RR
  have S1 : Hid _ := H0.out.far' T.out.2.2 hR hO hV
  have B1 : Hid _ := B0.out.kept (T.out.2.2.block w.heap.size B0.out.lt (fun e => by have := Option.some.inj e; have := rlt.out; omega))
  generalize w0.setCell ⟨R, 1, none⟩ (.int .i64 ((c : Int) + 1)) = w1 at *
  have r0 := T.out.1.r0
  unfold ifP at r0
  go_wp2_with fail
  refine Calls.mono (K1.out w1 S1.out) ?_
  rintro e w2 ⟨rfl, S2', G2'⟩
  have S2 : Hid _ := S2'
  have G2 : Hid _ := G2'
  clear S2' G2' r0
  have b24 : Hid _ := allocB w2 (.cells #[.bool false, .slice none 0 0, .slice none 0 0, .slice none 0 0] 54)
  have g0 : Hid (w.heap.size ≠ P) := (by have := lt.out; omega : w.heap.size ≠ P)
  have B2 : Hid _ := B1.out.gw G2.out g0.out (by simp)
  unfold zeroV
  go_upto_region 5 with fail
  have B4' : Hid _ := B2.out.below b24.out
  generalize w2.alloc (.cells #[.bool false, .slice none 0 0, .slice none 0 0, .slice none 0 0] 54) = w4 at *
  obtain ⟨u0, u1, u2, u3⟩ := B4'.out.b4
  have uz := B4'.out.fz
  have X : Hid _ := B4'.out.put (.bool false) (.slice none 0 0) (.slice none 0 0) (.slice none 0 0)
  have Y : Hid _ := And.intro ((S2.out.below b24.out).far' X.out.2 g0.out (H.out.newer _ (Nat.le_refl _)) (H.out.offNew (Nat.le_refl _))) (Gw.store (((Gw.of_below b0.out P (some R)).trans ((Gw.of_grown T.out.2.2 |> fun g => (⟨g.os, g.tape, g.output, g.size, fun i hi q1 q2 => g.block i hi (fun e => q2 (by rw [e])) (by simp)⟩ : Gw w0 w1 P (some R)))) (Or.inl rfl)).trans ((G2.out.next b24.out).any (some R)) (Or.inl rfl)) X.out.2 (Nat.le_refl _))
  unfold st4 at X Y
  go_wp2
  generalize (((w4.setCell ⟨w.heap.size, 0, none⟩ (.bool false)).setCell ⟨w.heap.size, 1, none⟩ (.slice none 0 0)).setCell ⟨w.heap.size, 2, none⟩ (.slice none 0 0)).setCell ⟨w.heap.size, 3, none⟩ (.slice none 0 0) = w5 at *
  obtain ⟨t0, t1, t2, t3⟩ := X.out.1.b4
  have kR : Hid (w5.heap[R]? = w1.heap[R]?) := by
    have lt1 := T.out.1.lt
    have q1 := G2.out.block R lt1 hR (by simp)
    have q2 := b24.out.block R (Nat.lt_of_lt_of_le lt1 G2.out.size)
    have q3 := X.out.2.block R (Nat.lt_of_lt_of_le (Nat.lt_of_lt_of_le lt1 G2.out.size) b24.out.size) (fun e => by have := Option.some.inj e; have := rlt.out; omega)
    exact q3.trans (q2.trans q1)
  refine bodyPost_ret (v := .tuple #[.agg #[.bool false, .slice none 0 0, .slice none 0 0, .slice none 0 0], .int .i64 4]) (by simp [results, Try.results66, go_sem, t0, t1, t2, t3]) rfl ⟨rfl, Y.out.1, T.out.1.kept kR.out, fun i hi => ?_, Y.out.2⟩
  rw [World.cell?_of_block (w := w1) (a := ⟨R, i, none⟩) kR.out, T.out.2.1 i hi]
  exact World.cell?_of_block (w := w) (a := ⟨R, i, none⟩) (b0.out.block R rlt.out)

end Go.Proofs.Ythdjghmipepppaa

