/- slices.Replace of numbers, on: two in the place of one; the last one. slices.Replace of numbers, on: the last one; all ways in one. Insert of nothing. -/
import Derived.Test.YthdjghmipepppaaMq
namespace Go.Proofs.Ythdjghmipepppaa
open Go.RowKit Go.Lib
set_option linter.unusedVariables false
set_option linter.unusedSimpArgs false

theorem lst2 {ks : List Nat} {n i a b : Nat} (hn : ks.length = n) (hi : i + 1 < n) : ((ks.take (i + 2) ++ ks.drop (i + 1) ++ ks.drop (i + 2 + (ks.drop (i + 1)).length)).take i ++ [a, b] ++ (ks.take (i + 2) ++ ks.drop (i + 1) ++ ks.drop (i + 2 + (ks.drop (i + 1)).length)).drop (i + [a, b].length)).take (ks.take i ++ [a, b] ++ ks.drop (i + 1)).length = ks.take i ++ [a, b] ++ ks.drop (i + 1) := by
  have e : i + [a, b].length = i + 2 := rfl
  have z : ks.drop (i + 2 + (ks.drop (i + 1)).length) = [] := List.drop_of_length_le (by simp; omega)
  rw [e, z, List.append_nil]
  have l : (ks.take (i + 2)).length = i + 2 := by simp; omega
  have d : (ks.take (i + 2) ++ ks.drop (i + 1)).drop (i + 2) = ks.drop (i + 1) := by
    have q := List.drop_left (l₁ := ks.take (i + 2)) (l₂ := ks.drop (i + 1))
    rw [l] at q
    exact q
  have t : (ks.take (i + 2) ++ ks.drop (i + 1)).take i = ks.take i := by
    rw [List.take_append_of_le_length (by omega), List.take_take, Nat.min_eq_left (by omega)]
  rw [d, t]
  exact List.take_length
theorem lst3 {ks : List Nat} {n i a b t : Nat} (hn : ks.length = n) (hi : i + 1 < n) (ht : t = n + 1) : (((ks.take i ++ List.replicate (t - i) 0).take i ++ [a, b] ++ (ks.take i ++ List.replicate (t - i) 0).drop (i + [a, b].length)).take (i + 2) ++ ks.drop (i + 1) ++ ((ks.take i ++ List.replicate (t - i) 0).take i ++ [a, b] ++ (ks.take i ++ List.replicate (t - i) 0).drop (i + [a, b].length)).drop (i + 2 + (ks.drop (i + 1)).length)).take (ks.take i ++ [a, b] ++ ks.drop (i + 1)).length = ks.take i ++ [a, b] ++ ks.drop (i + 1) := by
  rw [take_all i (by simp; omega), take_all (i + 2) (by simp; omega)]
  exact take_all _ rfl
theorem Ro.other {w w' : World} {g c : Nat} {ks : List Nat} (h : Ro w g c ks) (e : w'.heap[g]? = w.heap[g]?) : Ro w' g c ks :=
  ⟨fun j u hj => (World.cell?_of_block (w := w) (a := ⟨g, j, none⟩) e).trans (h.cs j u hj), fun j hj => by rw [World.cell?_of_block (w := w) (a := ⟨g, j, none⟩) e]; exact h.sp j hj, frozen_kept h.fz e, h.le, h.mx⟩
theorem _root_.Go.World.grownBy.newer {a b c : World} {g A : Nat} (h : a.grownBy b (some g)) (k : b.grownBy c (some A)) (hA : a.heap.size ≤ A) : a.grownBy c (some g) :=
  ⟨k.os.trans h.os, k.tape.trans h.tape, k.output.trans h.output, Nat.le_trans h.size k.size, fun i hi hne => (k.block i (Nat.lt_of_lt_of_le hi h.size) (fun e => by have := Option.some.inj e; omega)).trans (h.block i hi hne)⟩
theorem zeroCells_u64 (k : Nat) : (Builtin.zeroCells (Value.int IntKind.u64 0).cells k).toList = kv (List.replicate k 0) := by
  unfold Builtin.zeroCells kv
  simp [Value.cells]
  apply List.ext_getElem
  · simp
  · intro i h1 h2
    simp [Nat.mod_one]
theorem ro_new (w : World) (i t cc : Nat) (ks : List Nat) (hi : i ≤ ks.length) (ht : i ≤ t) (hc : t ≤ cc) (hm : cc ≤ maxLen) :
    Ro (w.drew.alloc (.cells ((kv (ks.take i)).toArray ++ Builtin.zeroCells (Value.int IntKind.u64 0).cells (t - i) ++ Builtin.zeroCells (Value.int IntKind.u64 0).cells (cc - t)) 27)) w.heap.size cc (ks.take i ++ List.replicate (t - i) 0) := by
  have cell : ∀ j, (w.drew.alloc (.cells ((kv (ks.take i)).toArray ++ Builtin.zeroCells (Value.int IntKind.u64 0).cells (t - i) ++ Builtin.zeroCells (Value.int IntKind.u64 0).cells (cc - t)) 27)).cell? ⟨w.heap.size, j, none⟩ = (kv (ks.take i ++ List.replicate (t - i) 0 ++ List.replicate (cc - t) 0))[j]? := fun j => by
    show (w.drew.alloc (.cells ((kv (ks.take i)).toArray ++ Builtin.zeroCells (Value.int IntKind.u64 0).cells (t - i) ++ Builtin.zeroCells (Value.int IntKind.u64 0).cells (cc - t)) 27)).cell? ⟨w.drew.heap.size, j, none⟩ = _
    rw [cell_of_row _ _ _ _ _ _ (heap_alloc_new w.drew _), ← Array.getElem?_toList, Array.toList_append, Array.toList_append, zeroCells_u64, zeroCells_u64, kv_app, kv_app]
  refine ⟨fun j u hj => ?_, fun j hj => ?_, fun j => World.frozen?_alloc_new _ _ _ j, by simp; omega, hm⟩
  · rw [cell, kv_app, List.getElem?_append_left (lt_of_some hj)]; exact hj
  · rw [cell, List.getElem?_eq_getElem (by rw [kv_len]; simp; omega)]; rfl
theorem ovl (g vb vo mc o : Nat) (lb cb : Nat) (l : List Nat) (c : Nat) (ks : List Nat) (w : World) (h : Ro w g c ks) (hc : 0 < c) (V : Vb w vb vo mc g l) (hl : 0 < l.length) :
    (callFunc 92 #[.slice (some ⟨g, o, none⟩) lb cb, .slice (some ⟨vb, vo, none⟩) l.length mc]).run Try.prog w = .ok (.value (.bool false)) w := by
  obtain ⟨u, hu⟩ := Option.isSome_iff_exists.1 (h.sp 0 hc)
  obtain ⟨tA, kA, s1, s2, _⟩ := World.shape?_of_cell? hu
  have hv : w.cell? ⟨vb, vo, none⟩ = some (.int .u64 ((l.getD 0 0 : Nat) : Int)) := by
    have := V.cell 0 _ (kv_get hl)
    rw [Addr.add_lit, Nat.add_zero] at this
    exact this
  obtain ⟨tB, kB, s3, s4, _⟩ := World.shape?_of_cell? hv
  rw [run_callFunc_extern Try.func92 (by kernel_rfl) (by kernel_rfl) (by kernel_rfl) (e := Extern.SlicesOverlaps.overlaps #[39, 39] #[4]) (by kernel_rfl),
    Lib.run_overlaps_apart w 39 4 27 Try.underlying39 1 (fun _ => by kernel_rfl) ⟨g, o, none⟩ ⟨vb, vo, none⟩ lb cb l.length mc (fun e => V.ne e.symm) tA tB kA kB s1 s3 (by simp only at s4; omega) (h.fz o) (h.fz kA)]
  rfl

set_option maxRecDepth 100000 in
set_option maxHeartbeats 4000000 in
/-- Two in the place of one, others behind it, room for one more. -/
theorem Replace_mid2r (g c n i : Nat) (ks : List Nat) (a b vb vo mc : Nat) (w : World) (h : Ro w g c ks) (hn : ks.length = n) (hn2 : n ≤ 100000) (hi : i + 1 < n) (V : Vb w vb vo mc g [a, b]) (hr : n + 1 ≤ c) :
    Calls Try.prog 81 #[.slice (some ⟨g, 0, none⟩) n c, .int .i64 (i : Nat), .int .i64 ((i : Int) + 1), .slice (some ⟨vb, vo, none⟩) 2 mc] w fun e w' => RepP w w' g e (ks.take i ++ [a, b] ++ ks.drop (i + 1)) := by
  have z2 : (n : Int) ≤ 100000 := by omega
  have z3 : n ≤ c := by have := h.le; omega
  have z5 : ¬ ((i : Int) = (i : Int) + 1) := by omega
  have z6 : c ≤ 9223372036854775807 := by have := h.mx; unfold maxLen at this; omega
  have z1 : (i : Int) + 1 < (n : Int) := by omega
  have z4 : ¬ ((i : Int) + 1 = (n : Int)) := by omega
  obtain ⟨t, ht⟩ : ∃ t, t = n + 1 := ⟨_, rfl⟩
  have e9 : (i : Int) + 2 + ((n - (i + 1) : Nat) : Int) = (t : Int) := by omega
  have t1 : (t : Int) ≤ 100001 := by omega
  have hw2 : IntKind.i64.wrap ((i : Int) + 2) = (i : Int) + 2 := by rw [IntKind.wrap_i64]; omega
  have htn2 : ((i : Int) + 2).toNat = i + 2 := by omega
  have hb5 : (0 : Int) ≤ (i : Int) + 2 := by omega
  have hb6 : (i : Int) + 2 ≤ (t : Int) := by omega
  have LN : Hid _ := hn
  have TT : Hid _ := ht
  have H : Hid _ := h
  have VV : Hid _ := V
  obtain ⟨RL, hRL⟩ : ∃ RL, RL = ks.take i ++ [a, b] ++ ks.drop (i + 1) := ⟨_, rfl⟩
  rw [← hRL]
  have RR : Hid _ := hRL
  clear hRL
  have t3 : t ≤ c := by omega
  have t4 : ¬ (c = i + 2) := by omega
  have t5 : ¬ ((i : Int) + 2 ≤ (i : Int) + 1) := by omega
  have t6 : ¬ (c = i) := by omega
  have t7 : (i : Int) ≤ (t : Int) := by omega
  clear h hn V ht hr
  have mixed : Try.prog.follows Departure.mixedOrders = true := by kernel_rfl
  have hw1 : IntKind.i64.wrap ((i : Int) + 1) = (i : Int) + 1 := by rw [IntKind.wrap_i64]; omega
  have htn : ((i : Int) + 1).toNat = i + 1 := by omega
  have hb1 : (0 : Int) ≤ (i : Int) + 1 := by omega
  have hb2 : ¬ (c = i + 1) := by omega
  have hb3 : (i : Int) + 1 ≤ (n : Int) := by omega
  go_enter Try.func81, Try.ntmps81
  go_upto_region 9 with fail
  go_quiet (fail)
  have H1 : Hid _ := H.out.drewN nq
  have V1 : Hid (Vb (w.drewN nq) vb vo mc g [a, b]) := ⟨VV.out.sl.below (drewB w nq), VV.out.ne⟩
  have G1 : Hid _ := grownBy_drewN w nq (some g)
  generalize w.drewN nq = w1 at *
  have hov : ∀ o lb cb, (callFunc 92 #[.slice (some ⟨g, o, none⟩) lb cb, .slice (some ⟨vb, vo, none⟩) 2 mc]).run Try.prog w1 = .ok (.value (.bool false)) w1 := fun o lb cb => ovl g vb vo mc o lb cb [a, b] c ks w1 H1.out (by omega) V1.out (by simp)
  go_upto_region 22 with (simp only [hov])
  clear hov
  have H2d : Hid _ := H1.out.drew
  have V2d : Hid (Vb w1.drew vb vo mc g [a, b]) := ⟨V1.out.sl.below (Below.refl w1.heap.size w1).drew, V1.out.ne⟩
  have cp2 := H2d.out.copy (i + 2) (t - (i + 2)) (n - (i + 1)) (ks.drop (i + 1)) ⟨g, i + 1, none⟩ (H2d.out.from (i + 1)) (by rw [List.length_drop, LN.out, show t - (i + 2) = n - (i + 1) by have := TT.out; omega]; exact (Nat.min_self _).symm) (by have := LN.out; have := TT.out; simp; omega)
  have H3 : Hid _ := H2d.out.set (i + 2) (ks.drop (i + 1)) (by have := LN.out; omega) (by have := LN.out; have := TT.out; simp; omega)
  have V3 : Hid _ := V2d.out.set (i + 2) (ks.drop (i + 1))
  have G3 : Hid _ := grownBy_trans G1.out (grownBy_trans (grownBy_drew w1 (some g)) (grow_set w1.drew g (i + 2) (ks.drop (i + 1))))
  go_region_law_o (fail)
  clear cp2
  generalize w1.drew.setCells g (i + 2) (kv (ks.drop (i + 1))) = w3 at *
  have cp3 := H3.out.copy i (t - i) 2 [a, b] ⟨vb, vo, none⟩ V3.out.cell (by simp [Nat.min_def]; omega) (by simp; omega)
  have H4 : Hid _ := H3.out.set i [a, b] (by have := LN.out; simp; omega) (by simp; omega)
  have G4 : Hid _ := grownBy_trans G3.out (grow_set w3 g i [a, b])
  go_wp2
  go_ret
  have E : Hid (_ = ks.take i ++ [a, b] ++ ks.drop (i + 1)) := lst2 LN.out (by omega)
  have q := H4.out.fin E.out
  rw [show (ks.take i ++ [a, b] ++ ks.drop (i + 1)).length = t by have := LN.out; have := TT.out; simp; omega] at q
  exact ⟨⟨_, _, _, rfl, by rw [RR.out]; exact q⟩, G4.out⟩

set_option maxRecDepth 100000 in
set_option maxHeartbeats 4000000 in
/-- Two in the place of one, others behind it, no room. -/
theorem Replace_mid2g (g c n i : Nat) (ks : List Nat) (a b vb vo mc : Nat) (w : World) (h : Ro w g c ks) (hn : ks.length = n) (hn2 : n ≤ 100000) (hi : i + 1 < n) (V : Vb w vb vo mc g [a, b]) (hr : c < n + 1) :
    Calls Try.prog 81 #[.slice (some ⟨g, 0, none⟩) n c, .int .i64 (i : Nat), .int .i64 ((i : Int) + 1), .slice (some ⟨vb, vo, none⟩) 2 mc] w fun e w' => RepP w w' g e (ks.take i ++ [a, b] ++ ks.drop (i + 1)) := by
  have z2 : (n : Int) ≤ 100000 := by omega
  have z3 : n ≤ c := by have := h.le; omega
  have z5 : ¬ ((i : Int) = (i : Int) + 1) := by omega
  have z6 : c ≤ 9223372036854775807 := by have := h.mx; unfold maxLen at this; omega
  have z1 : (i : Int) + 1 < (n : Int) := by omega
  have z4 : ¬ ((i : Int) + 1 = (n : Int)) := by omega
  obtain ⟨t, ht⟩ : ∃ t, t = n + 1 := ⟨_, rfl⟩
  have e9 : (i : Int) + 2 + ((n - (i + 1) : Nat) : Int) = (t : Int) := by omega
  have t1 : (t : Int) ≤ 100001 := by omega
  have hw2 : IntKind.i64.wrap ((i : Int) + 2) = (i : Int) + 2 := by rw [IntKind.wrap_i64]; omega
  have htn2 : ((i : Int) + 2).toNat = i + 2 := by omega
  have hb5 : (0 : Int) ≤ (i : Int) + 2 := by omega
  have hb6 : (i : Int) + 2 ≤ (t : Int) := by omega
  have LN : Hid _ := hn
  have TT : Hid _ := ht
  have H : Hid _ := h
  have VV : Hid _ := V
  obtain ⟨RL, hRL⟩ : ∃ RL, RL = ks.take i ++ [a, b] ++ ks.drop (i + 1) := ⟨_, rfl⟩
  rw [← hRL]
  have RR : Hid _ := hRL
  clear hRL
  have t3 : ¬ (t ≤ c) := by omega
  have t3' : (c : Int) < (t : Int) := by omega
  have t8 : (t : Int) - (i : Int) = ((t - i : Nat) : Int) := by omega
  have gl : Hid (g < w.heap.size) := (by obtain ⟨u, hu⟩ := Option.isSome_iff_exists.1 (h.sp 0 (by omega)); exact World.block_lt_of_cell? _ _ hu : g < w.heap.size)
  have vl : Hid (vb < w.heap.size) := V.sl.old (by simp) _ rfl
  clear h hn V ht hr
  have mixed : Try.prog.follows Departure.mixedOrders = true := by kernel_rfl
  have hw1 : IntKind.i64.wrap ((i : Int) + 1) = (i : Int) + 1 := by rw [IntKind.wrap_i64]; omega
  have htn : ((i : Int) + 1).toNat = i + 1 := by omega
  have hb1 : (0 : Int) ≤ (i : Int) + 1 := by omega
  have hb2 : ¬ (c = i + 1) := by omega
  have hb3 : (i : Int) + 1 ≤ (n : Int) := by omega
  go_enter Try.func81, Try.ntmps81
  go_upto_region 9 with fail
  go_quiet (fail)
  have H1 : Hid _ := H.out.drewN nq
  have V1 : Hid (Vb (w.drewN nq) vb vo mc g [a, b]) := ⟨VV.out.sl.below (drewB w nq), VV.out.ne⟩
  have G1 : Hid _ := grownBy_drewN w nq (some g)
  have gl1 : Hid (g < (w.drewN nq).heap.size ∧ vb < (w.drewN nq).heap.size) := And.intro gl.out vl.out
  generalize w.drewN nq = w1 at *
  obtain ⟨i0, hi0, hz0, hz1, hz2⟩ := info_parts u64Info
  have k0 : i + (t - i) = t := by omega
  have ap := run_append_grow_zeros (P := Try.prog) w1 39 3 39 27 i0 (.int .u64 0) .i64 .i64 Try.underlying39 Try.underlying3 hi0 hz0 (some ⟨g, 0, none⟩) i c (kv (ks.take i))
    (by rw [hz1]; exact run_firstCells_some w1.drew 1 i ⟨g, 0, none⟩ i c (kv (ks.take i)) (by rw [kv_len, List.length_take, LN.out]; omega) (fun j u hj => by rw [Addr.add_lit, Nat.zero_add]; exact (H1.out.take i).cs j u hj))
    (t - i) (by omega) (by omega) (by omega) (by omega) (by rw [hz2]; omega) (growslice_fits (by omega) (by rw [hz2]; omega))
  rw [k0] at ap
  have cg : t ≤ grownCap w1 t c 27 := grownCap_ge w1 t c _
  have cm : Hid (grownCap w1 t c 27 ≤ maxLen) := grownCap_le_maxLen w1 t c _ (by unfold maxLen; omega)
  have cmm : grownCap w1 t c 27 ≤ 9223372036854775807 := by have := cm.out; unfold maxLen at this; omega
  generalize grownCap w1 t c 27 = cc at *
  have R2 : Hid (Ro (w1.drew.alloc (.cells ((kv (ks.take i)).toArray ++ Builtin.zeroCells (Value.int IntKind.u64 0).cells (t - i) ++ Builtin.zeroCells (Value.int IntKind.u64 0).cells (cc - t)) 27)) w1.heap.size cc (ks.take i ++ List.replicate (t - i) 0)) := ro_new w1 i t cc ks (by rw [LN.out]; omega) (by omega) cg cm.out
  have V2 : Hid (Vb (w1.drew.alloc (.cells ((kv (ks.take i)).toArray ++ Builtin.zeroCells (Value.int IntKind.u64 0).cells (t - i) ++ Builtin.zeroCells (Value.int IntKind.u64 0).cells (cc - t)) 27)) vb vo mc w1.heap.size [a, b]) := Vb.mk (V1.out.sl.below ((Below.refl w1.heap.size w1).drew.alloc (Nat.le_refl _) _)) (by have := gl1.out.2; omega)
  have H2 : Hid (Ro (w1.drew.alloc (.cells ((kv (ks.take i)).toArray ++ Builtin.zeroCells (Value.int IntKind.u64 0).cells (t - i) ++ Builtin.zeroCells (Value.int IntKind.u64 0).cells (cc - t)) 27)) g c ks) := H1.out.drew.other (Below.heap_alloc _ _ _ gl1.out.1)
  have G2 : Hid (w.grownBy (w1.drew.alloc (.cells ((kv (ks.take i)).toArray ++ Builtin.zeroCells (Value.int IntKind.u64 0).cells (t - i) ++ Builtin.zeroCells (Value.int IntKind.u64 0).cells (cc - t)) 27)) (some g)) := grownBy_trans G1.out (grownBy_trans (grownBy_drew w1 (some g)) (grownBy_alloc _ _ _))
  have sz : Hid (w.heap.size ≤ w1.heap.size) := G1.out.size
  generalize w1.drew.alloc (.cells ((kv (ks.take i)).toArray ++ Builtin.zeroCells (Value.int IntKind.u64 0).cells (t - i) ++ Builtin.zeroCells (Value.int IntKind.u64 0).cells (cc - t)) 27) = w2 at *
  go_upto_region 12 with (at_builtin; refine wpList_append_run _ rfl _ _ _ _ rfl _ _ rfl rfl _ _ ap ?_)
  clear ap
  have u1 : ¬ (cc = i) := by omega
  have u2 : ¬ (cc = i + 2) := by omega
  have u3 : (i : Int) ≤ (t : Int) := by omega
  have cp1 := R2.out.copy i (t - i) 2 [a, b] ⟨vb, vo, none⟩ V2.out.cell (by simp [Nat.min_def]; omega) (by simp; omega)
  have R3 : Hid _ := R2.out.set i [a, b] (by have := LN.out; simp; omega) (by simp; omega)
  have H3 : Hid _ := H2.out.other ((grow_set w2 w1.heap.size i [a, b]).block g (by obtain ⟨u, hu⟩ := Option.isSome_iff_exists.1 (H2.out.sp 0 (by omega)); exact World.block_lt_of_cell? _ _ hu) (fun e => by have := Option.some.inj e; have := gl1.out.1; omega))
  have G3 : Hid (w.grownBy (w2.setCells w1.heap.size i (kv [a, b])) (some g)) := G2.out.newer (grow_set w2 w1.heap.size i [a, b]) sz.out
  go_upto_region 13 with fail
  clear cp1
  generalize w2.setCells w1.heap.size i (kv [a, b]) = w3 at *
  have H3d : Hid _ := H3.out.drew
  have R3d : Hid _ := R3.out.drew
  have cp2 := R3d.out.copy (i + 2) (t - (i + 2)) (n - (i + 1)) (ks.drop (i + 1)) ⟨g, i + 1, none⟩ (H3d.out.from (i + 1)) (by rw [List.length_drop, LN.out, show t - (i + 2) = n - (i + 1) by have := TT.out; omega]; exact (Nat.min_self _).symm) (by have := LN.out; have := TT.out; simp; omega)
  have R4 : Hid _ := R3d.out.set (i + 2) (ks.drop (i + 1)) (by have := LN.out; have := TT.out; simp; omega) (by have := LN.out; have := TT.out; simp; omega)
  have G4 : Hid (w.grownBy (w3.drew.setCells w1.heap.size (i + 2) (kv (ks.drop (i + 1)))) (some g)) := (grownBy_trans G3.out (grownBy_drew w3 (some g))).newer (grow_set w3.drew w1.heap.size (i + 2) (ks.drop (i + 1))) sz.out
  go_region_law_o (fail)
  clear cp2
  generalize w3.drew.setCells w1.heap.size (i + 2) (kv (ks.drop (i + 1))) = w4 at *
  go_wp2
  go_ret
  have E : Hid (_ = ks.take i ++ [a, b] ++ ks.drop (i + 1)) := lst3 (t := t) LN.out (by omega) (by have := TT.out; omega)
  have q := R4.out.fin E.out
  rw [show (ks.take i ++ [a, b] ++ ks.drop (i + 1)).length = t by have := LN.out; have := TT.out; simp; omega] at q
  exact ⟨⟨_, _, _, rfl, by rw [RR.out]; exact q⟩, G4.out⟩

end Go.Proofs.Ythdjghmipepppaa

namespace Go.Proofs.Ythdjghmipepppaa
open Go.RowKit Go.Lib
set_option linter.unusedVariables false
set_option linter.unusedSimpArgs false

theorem Ow.prefix {w : World} {T : TypeId} {base g n c : Nat} {vs : List Value} (h : Ow w T base (.slice (some ⟨g, 0, none⟩) n c) vs) (k : Nat) (hk : k ≤ n) : Ow w T base (.slice (some ⟨g, 0, none⟩) k c) (vs.take k) := by
  rcases h.row.2 with ⟨h0, _⟩ | ⟨g', cap, cur, hv, hb, hg, hn, hm, hs, ht⟩
  · cases h0
  · cases hv
    have l := h.row.1
    rw [Nat.mul_one] at hs ht l
    have e : (vs.take k).length = k := by rw [List.length_take, l]; omega
    refine ⟨⟨by rw [Nat.mul_one], .inr ⟨g, c, cur, by rw [e], hb, hg, by rw [e]; omega, hm, by rw [Nat.mul_one]; exact hs, ?_⟩⟩, fun u hu => h.one u (List.mem_of_mem_take hu)⟩
    rw [Nat.mul_one, e, ← ht, List.take_take, Nat.min_eq_left (by rw [l]; omega)]

set_option maxRecDepth 100000 in
set_option maxHeartbeats 4000000 in
/-- None in the place of the last. -/
theorem Replace_last0 (g c n i base : Nat) (ks : List Nat) (w : World) (o : Ow w 27 base (.slice (some ⟨g, 0, none⟩) n c) (kv ks)) (hn2 : n ≤ 100000) (hi : i + 1 = n) :
    Calls Try.prog 81 #[.slice (some ⟨g, 0, none⟩) n c, .int .i64 (i : Nat), .int .i64 ((i : Int) + 1), .slice none 0 0] w fun e w' => RepP w w' g e (ks.take i) := by
  obtain ⟨h, hn⟩ := o.ro
  obtain ⟨i0, hi0, hz0, hz1, hz2⟩ := info_parts u64Info
  have O : Hid _ := o.prefix i (by omega)
  have z2 : (n : Int) ≤ 100000 := by omega
  have z3 : n ≤ c := by have := h.le; omega
  have z5 : ¬ ((i : Int) = (i : Int) + 1) := by omega
  have z6 : c ≤ 9223372036854775807 := by have := h.mx; unfold maxLen at this; omega
  have z7 : (i : Int) + 1 = (n : Int) := by omega
  have z8 : (i : Int) < (n : Int) := by omega
  have z9 : ¬ (c = i) := by omega
  have z10 : n - i = 1 := by omega
  have hcl : ∀ cc ty, (Builtin.clear_ #[39] ty #[.slice (some ⟨g, i, none⟩) 1 cc]).run Try.prog w = .ok (.tuple #[]) (w.setCells g i (kv [0])) := fun cc ty => h.clear1 i (by omega) cc ty
  have H1 : Hid _ := h.set i [0] (by omega) (by simp; omega)
  have LN : Hid _ := hn
  clear o h hn
  go_enter Try.func81, Try.ntmps81
  go_wp2_with (at_builtin; refine wpList_append_own_none rfl (.tmp 32) (.tmp 33) 39 rfl base 27 i0 1 Try.underlying39 hi0 _ _ _ rfl O.out.row rfl ?_)
  go_ret
  have q := H1.out.fin (L := ks.take i) (by rw [List.append_assoc]; exact take_all _ rfl)
  rw [show (ks.take i).length = i by have := LN.out; simp; omega] at q
  exact ⟨⟨_, _, _, rfl, q⟩, grow_set w g i [0]⟩
set_option maxRecDepth 100000 in
set_option maxHeartbeats 4000000 in
/-- Some in the place of the last. -/
theorem Replace_last (g c n i base vb vo mc m : Nat) (ks rs : List Nat) (w : World) (o : Ow w 27 base (.slice (some ⟨g, 0, none⟩) n c) (kv ks)) (hn2 : n ≤ 100000) (hi : i + 1 = n) (V : Vb w vb vo mc g rs) (hm : rs.length = m) (h1 : 1 ≤ m) (h2 : m ≤ 2) (hb : base ≤ w.heap.size) :
    Calls Try.prog 81 #[.slice (some ⟨g, 0, none⟩) n c, .int .i64 (i : Nat), .int .i64 ((i : Int) + 1), .slice (some ⟨vb, vo, none⟩) m mc] w fun e w' => RepP w w' g e (ks.take i ++ rs) := by
  obtain ⟨h, hn⟩ := o.ro
  have O : Hid _ := o.prefix i (by omega)
  have VS : Hid (Sl w (some ⟨vb, vo, none⟩) m mc (kv rs)) := by rw [← hm]; exact V.sl
  have z2 : (n : Int) ≤ 100000 := by omega
  have z3 : n ≤ c := by have := h.le; omega
  have z5 : ¬ ((i : Int) = (i : Int) + 1) := by omega
  have z6 : c ≤ 9223372036854775807 := by have := h.mx; unfold maxLen at this; omega
  have z7 : (i : Int) + 1 = (n : Int) := by omega
  have LN : Hid _ := hn
  have LM : Hid _ := hm
  have i1 : (ks.take i).length = i := by rw [List.length_take]; omega
  have I1 : Hid _ := i1
  clear o h hn V hm i1
  go_enter Try.func81, Try.ntmps81
  go_upto_region 6 with (at_builtin; refine wpList_append_sl 39 27 (.int .u64 0) 8 Try.underlying39 u64Info rfl (by decide) rfl (.tmp 32) (.tmp 33) rfl base _ _ rfl O.out _ _ _ _ rfl VS.out (by rw [kv_take, kv_len, I1.out]; omega) hb ?_; rintro v2 w2 o2' g2')
  have g2 : Hid _ := g2'
  rw [kv_take, ← kv_app] at o2'
  obtain ⟨a2, c2, e2, s2', _, _⟩ := o2'.sl
  have l2 : (kv (ks.take i ++ rs)).length = i + m := by rw [kv_len, List.length_append, I1.out, LM.out]
  rw [l2] at e2 s2'
  subst e2
  have s2 : Hid _ := s2'
  have y1 : ¬ ((i : Int) + (m : Int) < (n : Int)) := by omega
  clear o2' s2' g2' l2
  go_wp2
  go_ret
  exact ⟨⟨_, _, _, rfl, s2.out⟩, g2.out⟩
/-- None, one or two in the place of one. -/
theorem Replace_any (g c n i base : Nat) (ks rs : List Nat) (rv : Value) (w : World) (o : Ow w 27 base (.slice (some ⟨g, 0, none⟩) n c) (kv ks)) (hn2 : n ≤ 100000) (hi : i < n) (hb : base ≤ w.heap.size)
    (hv : (rs = [] ∧ rv = .slice none 0 0) ∨ (rs.length = 1 ∧ ∃ vb vo mc, rv = .slice (some ⟨vb, vo, none⟩) 1 mc ∧ Vb w vb vo mc g rs) ∨ (rs.length = 2 ∧ ∃ vb vo mc, rv = .slice (some ⟨vb, vo, none⟩) 2 mc ∧ Vb w vb vo mc g rs)) :
    Calls Try.prog 81 #[.slice (some ⟨g, 0, none⟩) n c, .int .i64 (i : Nat), .int .i64 ((i : Int) + 1), rv] w fun e w' => RepP w w' g e (ks.take i ++ rs ++ ks.drop (i + 1)) := by
  obtain ⟨h, hn⟩ := o.ro
  rcases Nat.lt_or_ge (i + 1) n with q | q
  · obtain ⟨rfl, rfl⟩ | ⟨l, vb, vo, mc, rfl, V⟩ | ⟨l, vb, vo, mc, rfl, V⟩ := hv
    · rw [List.append_nil]
      exact Replace_mid0 g c n i ks w h hn.symm hn2 q
    · obtain ⟨a, rfl⟩ := List.length_eq_one_iff.1 l
      exact Replace_mid1 g c n i ks a vb vo mc w h hn.symm hn2 q V
    · obtain ⟨a, b, rfl⟩ : ∃ a b, rs = [a, b] := by
        match rs, l with
        | [a, b], _ => exact ⟨a, b, rfl⟩
      rcases Nat.lt_or_ge c (n + 1) with r | r
      · exact Replace_mid2g g c n i ks a b vb vo mc w h hn.symm hn2 q V r
      · exact Replace_mid2r g c n i ks a b vb vo mc w h hn.symm hn2 q V r
  · have e : i + 1 = n := by omega
    have d : ks.drop (i + 1) = [] := List.drop_of_length_le (by omega)
    rw [d, List.append_nil]
    obtain ⟨rfl, rfl⟩ | ⟨l, vb, vo, mc, rfl, V⟩ | ⟨l, vb, vo, mc, rfl, V⟩ := hv
    · rw [List.append_nil]
      exact Replace_last0 g c n i base ks w o hn2 e
    · exact Replace_last g c n i base vb vo mc 1 ks rs w o hn2 e V l (by decide) (by decide) hb
    · exact Replace_last g c n i base vb vo mc 2 ks rs w o hn2 e V l (by decide) (by decide) hb
/-- Insert of nothing. -/
theorem Insert_none (v : Value) (ss : List ByteArray) (i base : Nat) (w : World) (o : Ow w 9 base v (sv ss)) (hi : i ≤ ss.length) (hn : ss.length ≤ 100000) :
    Calls Try.prog 64 #[v, .int .i64 (i : Nat), .slice none 0 0] w fun e w' => e = .returned v ∧ Below w.heap.size w w' := by
  obtain ⟨a, cap, rfl, s, _, ha⟩ := o.sl
  have l := s.slen
  have f := s.fits
  generalize (sv ss).length = n at *
  have n1 : (i : Int) ≤ (n : Int) := by omega
  have n2 : (n : Int) ≤ 100000 := by omega
  rcases ha with rfl | ⟨g, rfl⟩
  · obtain ⟨rfl, rfl, _⟩ := s.none_nil
    obtain rfl : i = 0 := by omega
    clear o s
    go_enter Try.func64, Try.ntmps64
    go_wp2
    go_ret
    exact ⟨rfl, Below.refl _ _⟩
  · obtain ⟨O, CF, _⟩ := cut_from Try.underlying52 strInfo g 0 n cap i (i : Nat) rfl (by omega) f
    clear o s
    go_enter Try.func64, Try.ntmps64
    go_wp2
    go_ret
    exact ⟨rfl, Below.refl _ _⟩

end Go.Proofs.Ythdjghmipepppaa

