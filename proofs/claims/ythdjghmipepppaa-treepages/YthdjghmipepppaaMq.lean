/- slices.Replace of numbers: one, none or two in the place of one. -/
import Derived.Test.YthdjghmipepppaaMp
import Derived.Shelf.Spec.SlicesInsert
import Derived.Shelf.Spec.SlicesInsertGrow
import Derived.Lib.SliceRun
namespace Go.Proofs.Ythdjghmipepppaa
open Go.RowKit Go.Lib
set_option linter.unusedVariables false
set_option linter.unusedSimpArgs false

theorem u64Sz : (Try.prog.info? 27).map (·.size) = some 1 := by kernel_rfl
theorem u64Zero : ∀ w, (zeroValue 27).run Try.prog w = .ok (.int .u64 0) w := fun _ => by kernel_rfl
/-- A row of numbers of a call's own, cell by cell. -/
structure Ro (w : World) (g c : Nat) (ks : List Nat) : Prop where
  cs : ∀ (j : Nat) (u : Value), (kv ks)[j]? = some u → w.cell? ⟨g, j, none⟩ = some u
  sp : ∀ j, j < c → (w.cell? ⟨g, j, none⟩).isSome = true
  fz : ∀ j, w.frozen? ⟨g, j, none⟩ = false
  le : ks.length ≤ c
  mx : c ≤ maxLen
theorem Ow.ro {w : World} {base g n c : Nat} {ks : List Nat} (h : Ow w 27 base (.slice (some ⟨g, 0, none⟩) n c) (kv ks)) : Ro w g c ks ∧ n = ks.length := by
  have hl := kv_len ks
  rcases h.row.2 with ⟨h0, _⟩ | ⟨g', cap, cur, hv, hb, hg, hn, hm, hs, ht⟩
  · cases h0
  · cases hv
    rw [Nat.mul_one] at hs ht
    have cell : ∀ j, w.cell? ⟨g, j, none⟩ = cur[j]? := fun j => cell_of_row w g j cur _ _ hg
    refine ⟨⟨fun j u hj => ?_, fun j hj => ?_, fun j => ?_, by omega, hm⟩, by omega⟩
    · have jl := lt_of_some hj
      rw [cell]
      rw [← ht, List.getElem?_take_of_lt jl, Array.getElem?_toList] at hj
      exact hj
    · rw [cell, Array.getElem?_eq_getElem (by omega)]; rfl
    · simp [World.frozen?, hg]
theorem Ro.drewN {w : World} {g c : Nat} {ks : List Nat} (h : Ro w g c ks) (n : Nat) : Ro (w.drewN n) g c ks := ⟨h.cs, h.sp, h.fz, h.le, h.mx⟩
theorem Ro.drew {w : World} {g c : Nat} {ks : List Nat} (h : Ro w g c ks) : Ro w.drew g c ks := ⟨h.cs, h.sp, h.fz, h.le, h.mx⟩
theorem Ro.take {w : World} {g c : Nat} {ks : List Nat} (h : Ro w g c ks) (k : Nat) : Ro w g c (ks.take k) := by
  refine ⟨fun j u hj => ?_, h.sp, h.fz, by have := h.le; rw [List.length_take]; omega, h.mx⟩
  rw [← kv_take] at hj
  have jl := lt_of_some hj
  rw [List.getElem?_take_of_lt (by rw [List.length_take] at jl; omega)] at hj
  exact h.cs j u hj
theorem Ro.sl {w : World} {g c : Nat} {ks : List Nat} (h : Ro w g c ks) : Sl w (some ⟨g, 0, none⟩) ks.length c (kv ks) :=
  ⟨kv_len ks, h.le, h.mx, fun e => by simp at e, ⟨g, 0, fun _ => rfl, fun i u hi => by rw [Nat.zero_add]; exact h.cs i u hi⟩, kv_one ks⟩
/-- Numbers stored over it. -/
theorem Ro.set {w : World} {g c : Nat} {ks : List Nat} (h : Ro w g c ks) (o : Nat) (l : List Nat) (ho : o ≤ ks.length) (hl : o + l.length ≤ c) : Ro (w.setCells g o (kv l)) g c (ks.take o ++ l ++ ks.drop (o + l.length)) := by
  have hk := kv_len l
  have inn : ∀ j, j < (kv l).length → (w.cell? ⟨g, o + j, none⟩).isSome = true := fun j hj => h.sp _ (by omega)
  refine ⟨fun j u hj => ?_, fun j hj => isSome_setCells g _ _ _ inn j (h.sp j hj), fun j => by rw [World.frozen?_setCells]; exact h.fz j, ?_, h.mx⟩
  · rw [kv_app, kv_app] at hj
    have tl : (kv (ks.take o)).length = o := by rw [kv_len, List.length_take]; omega
    rcases Nat.lt_or_ge j o with q | q
    · rw [List.append_assoc, List.getElem?_append_left (by omega), ← kv_take, List.getElem?_take_of_lt q] at hj
      rw [World.cell?_setCells_out g _ _ _ _ (fun _ _ => Or.inl q)]
      exact h.cs j u hj
    · rcases Nat.lt_or_ge j (o + l.length) with r | r
      · rw [List.getElem?_append_left (by rw [List.length_append]; omega), List.getElem?_append_right (by omega), tl] at hj
        have e := World.cell?_setCells_in g (kv l) o w inn (j - o) (by omega)
        rw [show o + (j - o) = j by omega] at e
        rw [e, ← hj]
        exact (List.getElem?_eq_getElem (by omega)).symm
      · rw [List.getElem?_append_right (by rw [List.length_append]; omega), List.length_append, tl, hk, ← kv_drop, List.getElem?_drop, show o + l.length + (j - (o + l.length)) = j by omega] at hj
        rw [World.cell?_setCells_out g _ _ _ _ (fun _ _ => Or.inr (by show o + (kv l).length ≤ j; omega))]
        exact h.cs j u hj
  · have := h.le
    simp only [List.length_append, List.length_take, List.length_drop]
    omega
/-- 'copy' into it. -/
theorem Ro.copy {w : World} {g c : Nat} {ks : List Nat} (h : Ro w g c ks) (o dl sLen : Nat) (l : List Nat) (x : Addr) (hsrc : ∀ (j : Nat) (u : Value), (kv l)[j]? = some u → w.cell? (x.add j) = some u) (hl : l.length = Nat.min sLen dl) (ho : o + l.length ≤ c) :
    ∀ ty dc sc, (Builtin.copy_ #[39, 39] ty #[.slice (some ⟨g, o, none⟩) dl dc, .slice (some x) sLen sc]).run Try.prog w = .ok (goInt (kv l).length) (w.setCells g o (kv l)) := fun ty dc sc =>
  run_copy_cells w _ _ ty 27 g o dl dc x sLen sc (kv l) Try.underlying39 u64Sz (by rw [kv_len]; exact hl) hsrc (fun j hj => h.sp _ (by rw [kv_len] at hj; omega)) (fun j _ => h.fz _) (kv_one l)
theorem Ro.from {w : World} {g c : Nat} {ks : List Nat} (h : Ro w g c ks) (k : Nat) : ∀ (j : Nat) (u : Value), (kv (ks.drop k))[j]? = some u → w.cell? ((⟨g, k, none⟩ : Addr).add j) = some u := fun j u hj => by
  rw [Addr.add_lit]
  rw [← kv_drop, List.getElem?_drop] at hj
  exact h.cs _ u hj
theorem clear_none (w : World) (x : Option Addr) (c : Nat) (ty : TypeId) : (Builtin.clear_ #[39] ty #[.slice x 0 c]).run Try.prog w = .ok (.tuple #[]) w := by
  cases x <;> simp [Builtin.clear_, run_underlying Try.underlying39]
theorem Ro.clear1 {w : World} {g c : Nat} {ks : List Nat} (h : Ro w g c ks) (o : Nat) (ho : o < c) (cc : Nat) (ty : TypeId) : (Builtin.clear_ #[39] ty #[.slice (some ⟨g, o, none⟩) 1 cc]).run Try.prog w = .ok (.tuple #[]) (w.setCells g o (kv [0])) :=
  run_clear_slice w 39 27 ty (.int .u64 0) Try.underlying39 u64Zero rfl rfl g o 1 cc (by decide) (fun j hj => h.sp _ (by omega)) (fun j _ => h.fz _)
/-- What Replace answers. -/
def RepP (w w' : World) (g : Nat) (e : Ending) (l : List Nat) : Prop := (∃ a m c, e = .returned (.slice a m c) ∧ Sl w' a m c (kv l)) ∧ w.grownBy w' (some g)
theorem grow_set (w : World) (g o : Nat) (l : List Nat) : w.grownBy (w.setCells g o (kv l)) (some g) := grownBy_setCells g (kv l) o w
/-- Where the values lie: in a block of their own. -/
structure Vb (w : World) (vb vo mc g : Nat) (l : List Nat) : Prop where
  sl : Sl w (some ⟨vb, vo, none⟩) l.length mc (kv l)
  ne : vb ≠ g
theorem Vb.cell {w : World} {vb vo mc g : Nat} {l : List Nat} (h : Vb w vb vo mc g l) : ∀ (j : Nat) (u : Value), (kv l)[j]? = some u → w.cell? ((⟨vb, vo, none⟩ : Addr).add j) = some u := h.sl.news
theorem Vb.set {w : World} {vb vo mc g : Nat} {l : List Nat} (h : Vb w vb vo mc g l) (o : Nat) (r : List Nat) : Vb (w.setCells g o (kv r)) vb vo mc g l :=
  ⟨h.sl.grown (grow_set w g o r) (fun _ x hx e => h.ne (by simp at hx; subst hx; exact Option.some.inj e)), h.ne⟩

theorem Ro.fin {w : World} {g c : Nat} {M L : List Nat} (h : Ro w g c M) (e : M.take L.length = L) : Sl w (some ⟨g, 0, none⟩) L.length c (kv L) := by
  have q := h.take L.length
  rw [e] at q
  exact q.sl
theorem take_all {L M : List Nat} (n : Nat) (h : L.length = n) : (L ++ M).take n = L := by rw [← h]; exact List.take_left
theorem lst1 {ks : List Nat} {n i a : Nat} (hn : ks.length = n) (hi : i + 1 < n) : ((ks.take i ++ [a] ++ ks.drop (i + [a].length)).take (i + 1) ++ ks.drop (i + 1) ++ (ks.take i ++ [a] ++ ks.drop (i + [a].length)).drop (i + 1 + (ks.drop (i + 1)).length)).take (ks.take i ++ [a] ++ ks.drop (i + 1)).length = ks.take i ++ [a] ++ ks.drop (i + 1) := by
  have e : i + [a].length = i + 1 := rfl
  rw [e, take_all (i + 1) (by simp; omega)]
  exact take_all _ rfl
theorem lst0 {ks : List Nat} {n i t : Nat} (hn : ks.length = n) (hi : i + 1 < n) (ht : t + 1 = n) : ((ks.take i ++ ks.drop (i + 1) ++ ks.drop (i + (ks.drop (i + 1)).length)).take t ++ [0] ++ (ks.take i ++ ks.drop (i + 1) ++ ks.drop (i + (ks.drop (i + 1)).length)).drop (t + [0].length)).take (ks.take i ++ ks.drop (i + 1)).length = ks.take i ++ ks.drop (i + 1) := by
  rw [take_all t (by simp; omega), List.append_assoc]
  exact take_all _ rfl

set_option maxRecDepth 100000 in
set_option maxHeartbeats 4000000 in
/-- One in the place of one, others behind it. -/
theorem Replace_mid1 (g c n i : Nat) (ks : List Nat) (a vb vo mc : Nat) (w : World) (h : Ro w g c ks) (hn : ks.length = n) (hn2 : n ≤ 100000) (hi : i + 1 < n) (V : Vb w vb vo mc g [a]) :
    Calls Try.prog 81 #[.slice (some ⟨g, 0, none⟩) n c, .int .i64 (i : Nat), .int .i64 ((i : Int) + 1), .slice (some ⟨vb, vo, none⟩) 1 mc] w fun e w' => RepP w w' g e (ks.take i ++ [a] ++ ks.drop (i + 1)) := by
  have z2 : (n : Int) ≤ 100000 := by omega
  have z3 : n ≤ c := by have := h.le; omega
  have z5 : ¬ ((i : Int) = (i : Int) + 1) := by omega
  have z6 : c ≤ 9223372036854775807 := by have := h.mx; unfold maxLen at this; omega
  have z1 : (i : Int) + 1 < (n : Int) := by omega
  have z4 : ¬ ((i : Int) + 1 = (n : Int)) := by omega
  obtain ⟨O, CF, _⟩ := cut_from Try.underlying39 u64Info g 0 n c n (n : Nat) rfl (Nat.le_refl _) z3
  have H : Hid _ := h
  have VV : Hid _ := V
  have LN : Hid _ := hn
  have e9 : (i : Int) + 1 + ((n - (i + 1) : Nat) : Int) = (n : Int) := by omega
  have hcl : ∀ W ty, (Builtin.clear_ #[39] ty #[.slice (some ⟨g, O, none⟩) 0 (c - n)]).run Try.prog W = .ok (.tuple #[]) W := fun W ty => clear_none W _ _ ty
  clear h hn V
  have mixed : Try.prog.follows Departure.mixedOrders = true := by kernel_rfl
  have hw1 : IntKind.i64.wrap ((i : Int) + 1) = (i : Int) + 1 := by rw [IntKind.wrap_i64]; omega
  have htn : ((i : Int) + 1).toNat = i + 1 := by omega
  have hb1 : (0 : Int) ≤ (i : Int) + 1 := by omega
  have hb2 : ¬ (c = i + 1) := by omega
  have hb3 : (i : Int) + 1 ≤ (n : Int) := by omega
  go_enter Try.func81, Try.ntmps81
  go_upto_region 9 with fail
  go_quiet (fail)
  have H1 : Hid _ := H.out.drewN nq
  have V1 : Hid (Vb (w.drewN nq) vb vo mc g [a]) := ⟨VV.out.sl.below (drewB w nq), VV.out.ne⟩
  have G1 : Hid _ := grownBy_drewN w nq (some g)
  generalize w.drewN nq = w1 at *
  have cp1 := H1.out.copy i (n - i) 1 [a] ⟨vb, vo, none⟩ V1.out.cell (by simp [Nat.min_def]; omega) (by simp; omega)
  have H2 : Hid _ := H1.out.set i [a] (by have := LN.out; omega) (by simp; omega)
  go_upto_region 18 with fail
  clear cp1
  have G2 : Hid _ := grownBy_trans G1.out (grow_set w1 g i [a])
  generalize w1.setCells g i (kv [a]) = w2 at *
  have L1 : Hid ((ks.take i ++ [a] ++ ks.drop (i + 1)).drop (i + 1) = ks.drop (i + 1)) := (by
    have l : (ks.take i ++ [a]).length = i + 1 := by have := LN.out; simp; omega
    have := List.drop_append (l₁ := ks.take i ++ [a]) (l₂ := ks.drop (i + 1)) (i := i + 1)
    rw [this, List.drop_of_length_le (by omega), l, Nat.sub_self]; rfl : (ks.take i ++ [a] ++ ks.drop (i + 1)).drop (i + 1) = ks.drop (i + 1))
  have H2d : Hid _ := H2.out.drew
  have cp2 := H2d.out.copy (i + 1) (n - (i + 1)) (n - (i + 1)) (ks.drop (i + 1)) ⟨g, i + 1, none⟩ (by have := H2d.out.from (i + 1); rw [show i + [a].length = i + 1 from rfl, L1.out] at this; exact this) (by have := LN.out; simp [Nat.min_def]; omega) (by have := LN.out; simp; omega)
  have H3 : Hid _ := H2d.out.set (i + 1) (ks.drop (i + 1)) (by have := LN.out; simp; omega) (by have := LN.out; simp; omega)
  have G3 : Hid _ := grownBy_trans G2.out (grownBy_trans (grownBy_drew w2 (some g)) (grow_set w2.drew g (i + 1) (ks.drop (i + 1))))
  go_region_law_o (fail)
  clear cp2
  generalize w2.drew.setCells g (i + 1) (kv (ks.drop (i + 1))) = w3 at *
  go_wp2
  go_ret
  have E : Hid (_ = ks.take i ++ [a] ++ ks.drop (i + 1)) := lst1 LN.out (by omega)
  have q := H3.out.fin E.out
  rw [show (ks.take i ++ [a] ++ ks.drop (i + 1)).length = n by have := LN.out; simp; omega] at q
  exact ⟨⟨_, _, _, rfl, q⟩, G3.out⟩

set_option maxRecDepth 100000 in
set_option maxHeartbeats 4000000 in
/-- None in the place of one, others behind it. -/
theorem Replace_mid0 (g c n i : Nat) (ks : List Nat) (w : World) (h : Ro w g c ks) (hn : ks.length = n) (hn2 : n ≤ 100000) (hi : i + 1 < n) :
    Calls Try.prog 81 #[.slice (some ⟨g, 0, none⟩) n c, .int .i64 (i : Nat), .int .i64 ((i : Int) + 1), .slice none 0 0] w fun e w' => RepP w w' g e (ks.take i ++ ks.drop (i + 1)) := by
  have z2 : (n : Int) ≤ 100000 := by omega
  have z3 : n ≤ c := by have := h.le; omega
  have z5 : ¬ ((i : Int) = (i : Int) + 1) := by omega
  have z6 : c ≤ 9223372036854775807 := by have := h.mx; unfold maxLen at this; omega
  have z1 : (i : Int) + 1 < (n : Int) := by omega
  have z4 : ¬ ((i : Int) + 1 = (n : Int)) := by omega
  have H : Hid _ := h
  have LN : Hid _ := hn
  obtain ⟨t, ht⟩ : ∃ t, t = n - 1 := ⟨_, rfl⟩
  have e9 : (i : Int) + ((n - (i + 1) : Nat) : Int) = (t : Int) := by omega
  have t1 : t ≤ n := by omega
  have t2 : i < t := by omega
  have t3 : (t : Int) ≤ (n : Int) := by omega
  have t4 : n - t = 1 := by omega
  have t5 : ¬ (c = t) := by omega
  have t6 : ¬ (c = i) := by omega
  have t7 : (i : Int) ≤ (t : Int) := by omega
  have hw0 : IntKind.i64.wrap (i : Int) = (i : Int) := by rw [IntKind.wrap_i64]; omega
  have hb0 : (0 : Int) ≤ (i : Int) := by omega
  have TT : Hid _ := ht
  clear h hn ht
  have mixed : Try.prog.follows Departure.mixedOrders = true := by kernel_rfl
  have hw1 : IntKind.i64.wrap ((i : Int) + 1) = (i : Int) + 1 := by rw [IntKind.wrap_i64]; omega
  have htn : ((i : Int) + 1).toNat = i + 1 := by omega
  have hb1 : (0 : Int) ≤ (i : Int) + 1 := by omega
  have hb2 : ¬ (c = i + 1) := by omega
  have hb3 : (i : Int) + 1 ≤ (n : Int) := by omega
  go_enter Try.func81, Try.ntmps81
  go_upto_region 9 with fail
  go_quiet (fail)
  have H1 : Hid _ := H.out.drewN nq
  have G1 : Hid _ := grownBy_drewN w nq (some g)
  generalize w.drewN nq = w1 at *
  have cp1 : ∀ ty dc dl a, (Builtin.copy_ #[39, 39] ty #[.slice a dl dc, .slice none 0 0]).run Try.prog w1 = .ok (goInt 0) w1 := fun ty dc dl a => run_copy_none w1 _ _ ty 27 a none dl dc 0 0 Try.underlying39 u64Sz (by simp)
  go_upto_region 18 with fail
  clear cp1
  have H2d : Hid _ := H1.out.drew
  have cp2 := H2d.out.copy i (t - i) (n - (i + 1)) (ks.drop (i + 1)) ⟨g, i + 1, none⟩ (H2d.out.from (i + 1)) (by rw [List.length_drop, LN.out, show t - i = n - (i + 1) by have := TT.out; omega]; exact (Nat.min_self _).symm) (by have := LN.out; simp; omega)
  have H3 : Hid _ := H2d.out.set i (ks.drop (i + 1)) (by have := LN.out; omega) (by have := LN.out; simp; omega)
  have G3 : Hid _ := grownBy_trans G1.out (grownBy_trans (grownBy_drew w1 (some g)) (grow_set w1.drew g i (ks.drop (i + 1))))
  go_region_law_o (fail)
  clear cp2
  generalize w1.drew.setCells g i (kv (ks.drop (i + 1))) = w3 at *
  have hcl : ∀ ty, (Builtin.clear_ #[39] ty #[.slice (some ⟨g, t, none⟩) 1 (c - t)]).run Try.prog w3 = .ok (.tuple #[]) (w3.setCells g t (kv [0])) := fun ty => H3.out.clear1 t (by omega) _ ty
  have H4 : Hid _ := H3.out.set t [0] (by have := LN.out; have := TT.out; simp; omega) (by simp; omega)
  have G4 : Hid _ := grownBy_trans G3.out (grow_set w3 g t [0])
  go_wp2
  go_ret
  have E : Hid (_ = ks.take i ++ ks.drop (i + 1)) := lst0 (t := t) LN.out (by omega) (by have := TT.out; omega)
  have q := H4.out.fin E.out
  rw [show (ks.take i ++ ks.drop (i + 1)).length = t by have := LN.out; have := TT.out; simp; omega] at q
  exact ⟨⟨_, _, _, rfl, q⟩, G4.out⟩

end Go.Proofs.Ythdjghmipepppaa

