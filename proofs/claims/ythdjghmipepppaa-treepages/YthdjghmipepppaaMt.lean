/- added, left: what comes in a page's place. -/
import Derived.Test.YthdjghmipepppaaMs
namespace Go.Proofs.Ythdjghmipepppaa
open Go.RowKit Go.Lib
set_option linter.unusedVariables false
set_option linter.unusedSimpArgs false

/-- Two cells in a block of their own. -/
structure Bd2 (w : World) (A : Nat) (c0 c1 : Value) : Prop where
  a0 : w.cell? ⟨A, 0, none⟩ = some c0
  a1 : w.cell? ⟨A, 1, none⟩ = some c1
  past : ∀ i, 2 ≤ i → w.cell? ⟨A, i, none⟩ = none
  fz : ∀ i, w.frozen? ⟨A, i, none⟩ = false
theorem Bd2.new (w : World) (c0 c1 : Value) (t : TypeId) : Bd2 (w.alloc (.cells #[c0, c1] t)) w.heap.size c0 c1 :=
  ⟨by simp, by simp, fun i hi => by simp; omega, fun i => World.frozen?_alloc_new _ _ _ i⟩
theorem Bd2.lt {w : World} {A : Nat} {c0 c1 : Value} (h : Bd2 w A c0 c1) : A < w.heap.size := World.block_lt_of_cell? _ _ h.a0
theorem Bd2.kept {w w' : World} {A : Nat} {c0 c1 : Value} (h : Bd2 w A c0 c1) (k : w'.heap[A]? = w.heap[A]?) : Bd2 w' A c0 c1 :=
  ⟨(World.cell?_of_block (w := w) (a := ⟨A, 0, none⟩) k).trans h.a0, (World.cell?_of_block (w := w) (a := ⟨A, 1, none⟩) k).trans h.a1, fun i hi => (World.cell?_of_block (w := w) (a := ⟨A, i, none⟩) k).trans (h.past i hi), frozen_kept h.fz k⟩
theorem Bd2.below {w w' : World} {A : Nat} {c0 c1 : Value} (h : Bd2 w A c0 c1) (b : Below w.heap.size w w') : Bd2 w' A c0 c1 := h.kept (b.block A h.lt)
theorem Bd2.gw {w w' : World} {A P : Nat} {o : Option Nat} {c0 c1 : Value} (h : Bd2 w A c0 c1) (g : Gw w w' P o) (h1 : A ≠ P) (h2 : some A ≠ o) : Bd2 w' A c0 c1 := h.kept (g.block A h.lt h1 h2)
theorem Bd2.nt {w : World} {A : Nat} {c0 c1 : Value} (h : Bd2 w A c0 c1) (n0 : nt c0) (n1 : nt c1) : NT w A := by
  intro i u hu
  rcases Nat.lt_or_ge i 2 with q | q
  · have e : i = 0 ∨ i = 1 := by omega
    rcases e with rfl | rfl
    · rw [h.a0] at hu; cases hu; exact n0
    · rw [h.a1] at hu; cases hu; exact n1
  · rw [h.past i q] at hu; cases hu
theorem Bd2.put {w : World} {A : Nat} {c0 c1 : Value} (h : Bd2 w A c0 c1) (v0 v1 : Value) : Bd2 ((w.setCell ⟨A, 0, none⟩ v0).setCell ⟨A, 1, none⟩ v1) A v0 v1 ∧ w.grownBy ((w.setCell ⟨A, 0, none⟩ v0).setCell ⟨A, 1, none⟩ v1) (some A) := by
  have ne : ∀ i j : Nat, i ≠ j → (⟨A, i, none⟩ : Addr) ≠ ⟨A, j, none⟩ := fun i j h k => by injection k with _ k; exact h k
  refine ⟨⟨?_, World.cell?_setCell_same _ _ _ ((World.cell?_setCell_other _ _ _ _ (ne 0 1 (by decide))).trans h.a1), fun i hi => ?_, fun i => by simp [h.fz]⟩, grownBy_trans (grownBy_setCell w A 0 v0) (grownBy_setCell _ A 1 v1)⟩
  · rw [World.cell?_setCell_other _ _ _ _ (ne 1 0 (by decide))]
    exact World.cell?_setCell_same _ _ _ h.a0
  · rw [World.cell?_setCell_other _ _ _ _ (ne 1 i (by omega)), World.cell?_setCell_other _ _ _ _ (ne 0 i (by omega))]
    exact h.past i hi

/-- A branch's shape. -/
def Shp (p : Pg) : Prop := p.leaf = false ∧ p.vals = [] ∧ p.kids.length = p.keys.length + 1
theorem Split_all (v : Value) (p : Pg) (w : World) (h : Pv w v p) (f : Fit p) (g : goodB p = true ∨ Shp p) : Calls Try.prog 65 #[v] w fun e w' => NewT w w' e (spA p) (spK p) (spB p) := by
  rcases g with g | ⟨l, gv, gk⟩
  · exact Split_any v p w h f g
  · unfold spA spK spB
    have c1 : ¬ (p.leaf = true ∧ 2 ≤ p.keys.length) := fun q => by rw [l] at q; cases q.1
    rw [if_neg c1, if_neg c1, if_neg c1]
    by_cases c2 : p.leaf = false ∧ 3 ≤ p.keys.length
    · rw [if_pos c2, if_pos c2, if_pos c2]
      exact Split_branch v p w h f.bd l gv gk c2.2
    · rw [if_neg c2, if_neg c2, if_neg c2]
      refine Calls.mono (Split_small v p w h f.bd (Or.inr ⟨l, ?_⟩)) fun e w' ⟨v', u', he, h1, h2, _, b⟩ => ⟨v', u', he, h1, h2, b⟩
      rcases Nat.lt_or_ge p.keys.length 3 with q | q
      · exact q
      · exact absurd ⟨l, q⟩ c2

set_option maxRecDepth 100000 in
theorem sAdd_ill (P : Nat) (sl : Value) (vs : List V4) (sh : List Pg) (ill n : Nat) (v : Value) (p : Pg) (w : World) (h : Shf w P sl vs sh ill n) (hn : n ≤ 900000000) (hs : n + 1 = ill) (hp : Pv w v p) :
    Calls Try.prog 118 #[.pointer (some ⟨P, 0, none⟩), v] w fun e w' => e = .returned (.tuple #[.int .u64 0, .int .i64 4]) ∧ Shf w' P sl vs sh ill (n + 1) ∧ Gw w w' P none := by
  have K : Hid _ := fun W (b : Below w.heap.size w W) => sick_any P sl vs sh ill n W (h.below b) (by omega) (by omega) true (decide_eq_true hs)
  obtain ⟨ka, kn, kc, va, vn, vc, ia, im, ic, rfl, _, _, _⟩ := hp.ex
  clear h hs hp
  go_enter Try.func118, Try.ntmps118
  go_upto_region 1 with fail
  have b0 : Hid _ := allocB w (.cells #[.bool p.leaf, .slice ka kn kc, .slice va vn vc, .slice ia im ic] 54)
  generalize w.alloc (.cells #[.bool p.leaf, .slice ka kn kc, .slice va vn vc, .slice ia im ic] 54) = w0 at *
  go_wp2_with fail
  refine Calls.mono (K.out w0 b0.out) ?_
  rintro e w1 ⟨rfl, S1, G1'⟩
  have G1 : Hid _ := And.intro S1 G1'
  clear S1 G1' K
  go_wp2
  go_ret2
  exact ⟨rfl, G1.out.1, Gw.ahead b0.out G1.out.2⟩
theorem AddP.of {w w' : World} {P : Nat} {sl : Value} {vs : List V4} {sh : List Pg} {ill n : Nat} (h : Shf w' P sl vs sh ill n) (g : Gw w w' P none) : AddP w w' P sl sh ill n := ⟨sl, vs, h, g.any _, Or.inl rfl⟩
/-- What is left behind a store into what is new. -/
theorem AddP.far {w w1 w2 : World} {P A : Nat} {sl : Value} {sh : List Pg} {ill n : Nat} (h : AddP w w1 P sl sh ill n) (g : w1.grownBy w2 (some A)) (hA : w.heap.size ≤ A) (hP : A ≠ P) (hs : sl.ownBlock ≠ some A) (hn : ∀ sl' : Value, (sl'.ownBlock = sl.ownBlock ∨ ∃ g, sl'.ownBlock = some g ∧ w.heap.size ≤ g) → (∀ vs', Shf w1 P sl' vs' sh ill n → sl'.ownBlock ≠ some A)) (n1 : NT w1 A) : AddP w w2 P sl sh ill n := by
  obtain ⟨sl', vs', h1, h2, h3⟩ := h
  exact ⟨sl', vs', h1.far g hP (hn sl' h3 vs' h1) n1, h2.store g hA, h3⟩
theorem AddP.next {w w1 w2 : World} {P : Nat} {sl : Value} {sh : List Pg} {ill n : Nat} (h : AddP w w1 P sl sh ill n) (b : Below w1.heap.size w1 w2) : AddP w w2 P sl sh ill n := by
  obtain ⟨sl', vs', h1, h2, h3⟩ := h
  exact ⟨sl', vs', h1.below b, h2.next b, h3⟩
theorem AddP.trans {w w1 w2 : World} {P : Nat} {sl sl1 : Value} {sh' : List Pg} {ill n' : Nat} (h2 : Gw w w1 P sl.ownBlock) (h3 : sl1.ownBlock = sl.ownBlock ∨ ∃ g, sl1.ownBlock = some g ∧ w.heap.size ≤ g) (k : AddP w1 w2 P sl1 sh' ill n') : AddP w w2 P sl sh' ill n' := by
  obtain ⟨sl', vs', k1, k2, k3⟩ := k
  refine ⟨sl', vs', k1, h2.trans k2 h3, ?_⟩
  rcases k3 with q | ⟨g, q, hg⟩
  · rcases h3 with r | ⟨g, r, hg⟩
    · exact Or.inl (q.trans r)
    · exact Or.inr ⟨g, q.trans r, hg⟩
  · exact Or.inr ⟨g, q, Nat.le_trans h2.size hg⟩
theorem sl_two (w : World) (x : ByteArray) (a b : Nat) : Sl ((w.alloc (.cells #[.string x] 9)).alloc (.cells #[.int .u64 (a : Nat), .int .u64 (b : Nat)] 27)) (some ⟨w.heap.size + 1, 0, none⟩) 2 2 (kv [a, b]) := by
  refine ⟨rfl, Nat.le_refl _, by decide, fun e => by simp at e, ⟨w.heap.size + 1, 0, fun _ => rfl, fun i u hi => ?_⟩, kv_one _⟩
  have e : w.heap.size + 1 = (w.alloc (.cells #[.string x] 9)).heap.size := by simp
  rw [e, Nat.zero_add, cell_alloc_new]
  simpa [kv] using hi
/-- What settling a page answers. -/
def AdP (w w' : World) (P : Nat) (sl : Value) (sh : List Pg) (ill n : Nat) (s : List Pg × Run) (e : Ending) : Prop :=
  (∃ kk ii n', e = .returned (.tuple #[.agg #[kk, ii], .int .i64 0]) ∧ RunV w' kk ii s.2 ∧ AddP w w' P sl s.1 ill n' ∧ n ≤ n' ∧ n' ≤ n + 2 ∧ (ill = 0 ∨ n' < ill)) ∨
  (∃ a m c a' m' c' t, e = .returned (.tuple #[.agg #[.slice a m c, .slice a' m' c'], .int .i64 4]) ∧ AddP w w' P sl (sh ++ t) ill ill ∧ 0 < ill)
theorem sp_ps {p : Pg} (h : Ps p.kids) : Ps (spA p).kids ∧ Ps (spB p).kids := by
  constructor
  · unfold spA
    split
    · intro k hk; simp [lfA] at hk
    · split
      · intro k hk; simp only [brA] at hk; exact h k (List.mem_of_mem_take hk)
      · exact h
  · unfold spB
    split
    · intro k hk; simp [lfB] at hk
    · split
      · intro k hk; simp only [brB] at hk; exact h k (List.mem_of_mem_drop hk)
      · intro k hk; simp [zeroP] at hk

set_option maxRecDepth 100000 in
set_option maxHeartbeats 4000000 in
/-- A page that is not too great. -/
theorem added_small (P : Nat) (sl : Value) (vs : List V4) (sh : List Pg) (ill n : Nat) (v : Value) (p : Pg) (w : World) (h : Shf w P sl vs sh ill n) (hn : n ≤ 890000000) (hi : ill ≤ 1000000000) (wl : ill = 0 ∨ n < ill) (hp : Pv w v p) (hf : Fit p) (hg : goodB p = true ∨ Shp p) (hk : Ps p.kids) (hl : sh.length ≤ 900000) (hb : (encP p).length ≤ 900) :
    Calls Try.prog 32 #[ifP P, v] w fun e w' => AdP w w' P sl sh ill n (sh ++ [p], ⟨[], [sh.length + 1]⟩) e := by
  have WL : Hid _ := wl
  have lt : Hid _ := h.lt
  have HH : Hid _ := h
  have KP : Hid _ := hk
  have HL : Hid _ := hl
  obtain ⟨ka, kn, kc, va, vn, vc, ia, im, ic, rfl, _, _, _⟩ := hp.ex
  obtain ⟨lf, hlf⟩ : ∃ lf, lf = p.leaf := ⟨_, rfl⟩
  rw [← hlf] at hp ⊢
  have PV : Hid _ := hp
  have KB : Hid _ := fun W (b : Below w.heap.size w W) => Bytes_any _ p W (PV.out.below b) hf
  have n9 : ((encP p).length : Int) ≤ 900 := by omega
  generalize (encP p).length = N at *
  have K1 : Hid (∀ W, Shf W P sl vs sh ill n → Pv W (.agg #[.bool lf, .slice ka kn kc, .slice va vn vc, .slice ia im ic]) p → n + 1 ≠ ill → _) := fun W S X q => sAdd_ok P sl vs sh ill n (.agg #[.bool lf, .slice ka kn kc, .slice va vn vc, .slice ia im ic]) p W S (by omega) hi q X hk (by omega)
  have K2 : Hid (∀ W, Shf W P sl vs sh ill n → Pv W (.agg #[.bool lf, .slice ka kn kc, .slice va vn vc, .slice ia im ic]) p → n + 1 = ill → _) := fun W S X q => sAdd_ill P sl vs sh ill n (.agg #[.bool lf, .slice ka kn kc, .slice va vn vc, .slice ia im ic]) p W S (by omega) q X
  unfold ifP
  clear h hp hk wl hl hlf
  go_enter Try.func32, Try.ntmps32
  go_upto_region 1 with fail
  have b0 : Hid (Below w.heap.size w ((w.alloc (.cells #[.bool lf, .slice ka kn kc, .slice va vn vc, .slice ia im ic] 54)).alloc (.cells #[.slice none 0 0, .slice none 0 0] 113))) := nextB (allocB w _) (allocB _ _)
  have B0 : Hid _ := (Bq.new w (.bool lf) (.slice ka kn kc) (.slice va vn vc) (.slice ia im ic) 54).below (allocB _ (.cells #[.slice none 0 0, .slice none 0 0] 113))
  have C0 : Hid (Bd2 ((w.alloc (.cells #[.bool lf, .slice ka kn kc, .slice va vn vc, .slice ia im ic] 54)).alloc (.cells #[.slice none 0 0, .slice none 0 0] 113)) (w.heap.size + 1) (.slice none 0 0) (.slice none 0 0)) := by
    have q := Bd2.new (w.alloc (.cells #[.bool lf, .slice ka kn kc, .slice va vn vc, .slice ia im ic] 54)) (.slice none 0 0) (.slice none 0 0) 113
    have e : (w.alloc (.cells #[.bool lf, .slice ka kn kc, .slice va vn vc, .slice ia im ic] 54)).heap.size = w.heap.size + 1 := by simp
    rw [e] at q
    exact q
  generalize (w.alloc (.cells #[.bool lf, .slice ka kn kc, .slice va vn vc, .slice ia im ic] 54)).alloc (.cells #[.slice none 0 0, .slice none 0 0] 113) = w0 at *
  have gA : Hid (w.heap.size ≠ P ∧ w.heap.size + 1 ≠ P) := (by have := lt.out; omega : w.heap.size ≠ P ∧ w.heap.size + 1 ≠ P)
  obtain ⟨y0, y1, y2, y3⟩ := B0.out.b4
  go_wp2_with fail
  refine Calls.mono (KB.out w0 b0.out) ?_
  rintro e w1 ⟨rfl, b1'⟩
  have b1 : Hid _ := b1'
  clear b1' y0 y1 y2 y3 KB
  have b01 : Hid _ := nextB b0.out b1.out
  have B1 : Hid _ := B0.out.below b1.out
  have C1 : Hid _ := C0.out.below b1.out
  have H1 : Hid _ := HH.out.below b01.out
  have P1 : Hid _ := PV.out.below b01.out
  obtain ⟨y0, y1, y2, y3⟩ := B1.out.b4
  by_cases sick : n + 1 = ill
  · have SK : Hid _ := sick
    go_wp2_with fail
    refine Calls.mono (K2.out w1 H1.out P1.out sick) ?_
    clear sick
    rintro e w2 ⟨rfl, S2', G2'⟩
    have S2 : Hid _ := S2'
    have G2 : Hid _ := G2'
    clear S2' G2' K1 K2 y0 y1 y2 y3
    have b3 : Hid _ := allocB w2 (.cells #[.int .u64 0] 27)
    have C3 : Hid _ := (C1.out.gw G2.out gA.out.2 (by simp)).below b3.out
    have c0 := C3.out.a0
    have c1 := C3.out.a1
    have cz := C3.out.fz
    have X : Hid _ := C3.out.put (.slice none 0 0) (.slice (some ⟨w2.heap.size, 0, none⟩) 1 1)
    have nb : Hid _ := C3.out.nt (nt_slice _ _ _) (nt_slice _ _ _)
    have Y : Hid _ := AddP.of ((S2.out.below b3.out).far X.out.2 gA.out.2 (HH.out.newer _ (by omega)) nb.out) (((Gw.ahead b01.out G2.out).next b3.out).store X.out.2 (by omega))
    rw [SK.out] at Y
    have iz : Hid (0 < ill) := (by have := SK.out; omega : 0 < ill)
    go_upto_region 3 with fail
    go_wp2
    generalize ((w2.alloc (.cells #[.int .u64 0] 27)).setCell ⟨w.heap.size + 1, 0, none⟩ (.slice none 0 0)).setCell ⟨w.heap.size + 1, 1, none⟩ (.slice (some ⟨w2.heap.size, 0, none⟩) 1 1) = w4 at *
    have t0 := X.out.1.a0
    have t1 := X.out.1.a1
    exact bodyPost_ret (v := .tuple #[.agg #[.slice none 0 0, .slice (some ⟨w2.heap.size, 0, none⟩) 1 1], .int .i64 4]) (by simp [results, Try.results32, go_sem, t0, t1]) rfl (Or.inr ⟨_, _, _, _, _, _, [], rfl, by rw [List.append_nil]; exact Y.out, iz.out⟩)
  · have SK : Hid _ := sick
    go_wp2_with fail
    refine Calls.mono (K1.out w1 H1.out P1.out sick) ?_
    clear sick
    rintro e w2 ⟨rfl, A2'⟩
    obtain ⟨sl2, vs2, S2', G2', N2'⟩ := A2'
    have S2 : Hid _ := S2'
    have G2 : Hid _ := G2'
    have N2 : Hid _ := N2'
    clear S2' G2' N2' K1 K2 y0 y1 y2 y3
    obtain ⟨k, hk⟩ : ∃ k : Nat, k = sh.length + 1 := ⟨_, rfl⟩
    rw [← hk]
    have k1 : k < 18446744073709551616 := by have := HL.out; omega
    have b3 : Hid _ := allocB w2 (.cells #[.int .u64 (k : Nat)] 27)
    have sw : Hid _ := sl_one w2 (.int .u64 (k : Nat)) rfl 27
    have ob1 : Hid (sl.ownBlock ≠ some (w.heap.size + 1)) := HH.out.newer _ (by omega)
    have ob2 : Hid (sl2.ownBlock ≠ some (w.heap.size + 1)) := fun e => by
      rcases N2.out with q | ⟨g, q, hg⟩
      · exact ob1.out (q.symm.trans e)
      · rw [q] at e
        have := Option.some.inj e
        have := C1.out.lt
        omega
    have C3 : Hid _ := (C1.out.gw G2.out gA.out.2 (fun e => ob1.out e.symm)).below b3.out
    have c0 := C3.out.a0
    have c1 := C3.out.a1
    have cz := C3.out.fz
    have X : Hid _ := C3.out.put (.slice none 0 0) (.slice (some ⟨w2.heap.size, 0, none⟩) 1 1)
    have nb : Hid _ := C3.out.nt (nt_slice _ _ _) (nt_slice _ _ _)
    have Y : Hid (AddP w _ P sl (sh ++ [p]) ill (n + 1)) := ⟨sl2, vs2, (S2.out.below b3.out).far X.out.2 gA.out.2 ob2.out nb.out, ((Gw.ahead b01.out G2.out).next b3.out).store X.out.2 (by omega), N2.out.imp id (fun ⟨g, q, hg⟩ => ⟨g, q, Nat.le_trans b01.out.size hg⟩)⟩
    have RV : Hid (RunV _ (.slice none 0 0) (.slice (some ⟨w2.heap.size, 0, none⟩) 1 1) ⟨[], [k]⟩) := RunV.mk (Or.inl ⟨rfl, rfl⟩) (Or.inr ⟨_, _, 1, 1, rfl, Or.inl rfl, rfl, (show Sl _ _ 1 1 (kv [k]) from sw.out).gwK (fun x hx => by simp at hx; omega) (Gw.of_grown X.out.2) nb.out (fun b hb => by cases hb)⟩) (fun x hx => by simp at hx; omega) (fun x hx => by simp at hx; omega) (fun e => by simp at e)
    have HKK : Hid _ := hk
    clear hk
    go_upto_region 3 with fail
    go_wp2
    generalize ((w2.alloc (.cells #[.int .u64 (k : Nat)] 27)).setCell ⟨w.heap.size + 1, 0, none⟩ (.slice none 0 0)).setCell ⟨w.heap.size + 1, 1, none⟩ (.slice (some ⟨w2.heap.size, 0, none⟩) 1 1) = w4 at *
    have t0 := X.out.1.a0
    have t1 := X.out.1.a1
    refine bodyPost_ret (v := .tuple #[.agg #[.slice none 0 0, .slice (some ⟨w2.heap.size, 0, none⟩) 1 1], .int .i64 0]) (by simp [results, Try.results32, go_sem, t0, t1]) rfl (Or.inl ⟨_, _, n + 1, rfl, by rw [← HKK.out]; exact RV.out, Y.out, by omega, by omega, ?_⟩)
    rcases WL.out with q | q
    · exact Or.inl q
    · exact Or.inr (Nat.lt_of_le_of_ne q SK.out)
set_option maxRecDepth 100000 in
set_option maxHeartbeats 4000000 in
/-- A page that is too great. -/
theorem added_big (P : Nat) (sl : Value) (vs : List V4) (sh : List Pg) (ill n : Nat) (v : Value) (p : Pg) (w : World) (h : Shf w P sl vs sh ill n) (hn : n ≤ 890000000) (hi : ill ≤ 1000000000) (wl : ill = 0 ∨ n < ill) (hp : Pv w v p) (hf : Fit p) (hg : goodB p = true ∨ Shp p) (hk : Ps p.kids) (hl : sh.length ≤ 900000) (hb : 900 < (encP p).length) :
    Calls Try.prog 32 #[ifP P, v] w fun e w' => AdP w w' P sl sh ill n (sh ++ [spA p, spB p], ⟨[spK p], [sh.length + 1, sh.length + 2]⟩) e := by
  have WL : Hid _ := wl
  have lt : Hid _ := h.lt
  have HH : Hid _ := h
  have KP : Hid _ := hk
  have HL : Hid _ := hl
  obtain ⟨ka, kn, kc, va, vn, vc, ia, im, ic, rfl, _, _, _⟩ := hp.ex
  obtain ⟨lf, hlf⟩ : ∃ lf, lf = p.leaf := ⟨_, rfl⟩
  rw [← hlf] at hp ⊢
  have PV : Hid _ := hp
  have KB : Hid _ := fun W (b : Below w.heap.size w W) => Bytes_any _ p W (PV.out.below b) hf
  have n9 : (900 : Int) < ((encP p).length : Int) := by omega
  generalize (encP p).length = N at *
  have KS : Hid _ := fun W (b : Below w.heap.size w W) => Split_all _ p W (PV.out.below b) hf hg
  have pa : Hid _ := (sp_ps hk).1
  have pb : Hid _ := (sp_ps hk).2
  generalize spK p = KEY at *
  generalize spA p = PA at *
  generalize spB p = PB at *
  unfold ifP
  clear h hp hk wl hl hlf
  go_enter Try.func32, Try.ntmps32
  go_upto_region 1 with fail
  have b0 : Hid (Below w.heap.size w ((w.alloc (.cells #[.bool lf, .slice ka kn kc, .slice va vn vc, .slice ia im ic] 54)).alloc (.cells #[.slice none 0 0, .slice none 0 0] 113))) := nextB (allocB w _) (allocB _ _)
  have B0 : Hid _ := (Bq.new w (.bool lf) (.slice ka kn kc) (.slice va vn vc) (.slice ia im ic) 54).below (allocB _ (.cells #[.slice none 0 0, .slice none 0 0] 113))
  have C0 : Hid (Bd2 ((w.alloc (.cells #[.bool lf, .slice ka kn kc, .slice va vn vc, .slice ia im ic] 54)).alloc (.cells #[.slice none 0 0, .slice none 0 0] 113)) (w.heap.size + 1) (.slice none 0 0) (.slice none 0 0)) := by
    have q := Bd2.new (w.alloc (.cells #[.bool lf, .slice ka kn kc, .slice va vn vc, .slice ia im ic] 54)) (.slice none 0 0) (.slice none 0 0) 113
    have e : (w.alloc (.cells #[.bool lf, .slice ka kn kc, .slice va vn vc, .slice ia im ic] 54)).heap.size = w.heap.size + 1 := by simp
    rw [e] at q
    exact q
  generalize (w.alloc (.cells #[.bool lf, .slice ka kn kc, .slice va vn vc, .slice ia im ic] 54)).alloc (.cells #[.slice none 0 0, .slice none 0 0] 113) = w0 at *
  have gA : Hid (w.heap.size ≠ P ∧ w.heap.size + 1 ≠ P) := (by have := lt.out; omega : w.heap.size ≠ P ∧ w.heap.size + 1 ≠ P)
  obtain ⟨y0, y1, y2, y3⟩ := B0.out.b4
  go_wp2_with fail
  refine Calls.mono (KB.out w0 b0.out) ?_
  rintro e w1 ⟨rfl, b1'⟩
  have b1 : Hid _ := b1'
  clear b1' y0 y1 y2 y3 KB
  have b01 : Hid _ := nextB b0.out b1.out
  have B1 : Hid _ := B0.out.below b1.out
  have C1 : Hid _ := C0.out.below b1.out
  have H1 : Hid _ := HH.out.below b01.out
  have P1 : Hid _ := PV.out.below b01.out
  obtain ⟨y0, y1, y2, y3⟩ := B1.out.b4
  go_upto_region 4 with fail
  go_wp2_with fail
  refine Calls.mono (KS.out w1 b01.out) ?_
  rintro e w2 ⟨va', vb', rfl, Pa', Pb', b2'⟩
  have Pa : Hid _ := Pa'
  have Pb : Hid _ := Pb'
  have b2 : Hid _ := b2'
  obtain ⟨a1, m1, c1, a2, m2, c2, a3, m3, c3, rfl, _, _, _⟩ := Pa'.ex
  obtain ⟨d1, e1, f1, d2, e2, f2, d3, e3, f3, rfl, _, _, _⟩ := Pb'.ex
  clear Pa' Pb' b2' KS y0 y1 y2 y3
  generalize PA.leaf = la at *
  generalize PB.leaf = lb at *
  have b3 : Hid (Below w2.heap.size w2 ((w2.alloc (.cells #[.bool la, .slice a1 m1 c1, .slice a2 m2 c2, .slice a3 m3 c3] 54)).alloc (.cells #[.bool lb, .slice d1 e1 f1, .slice d2 e2 f2, .slice d3 e3 f3] 54))) := nextB (allocB w2 _) (allocB _ _)
  have BA : Hid _ := (Bq.new w2 (.bool la) (.slice a1 m1 c1) (.slice a2 m2 c2) (.slice a3 m3 c3) 54).below (allocB _ (.cells #[.bool lb, .slice d1 e1 f1, .slice d2 e2 f2, .slice d3 e3 f3] 54))
  have BB : Hid (Bq ((w2.alloc (.cells #[.bool la, .slice a1 m1 c1, .slice a2 m2 c2, .slice a3 m3 c3] 54)).alloc (.cells #[.bool lb, .slice d1 e1 f1, .slice d2 e2 f2, .slice d3 e3 f3] 54)) (w2.heap.size + 1) (.bool lb) (.slice d1 e1 f1) (.slice d2 e2 f2) (.slice d3 e3 f3)) := by
    have q := Bq.new (w2.alloc (.cells #[.bool la, .slice a1 m1 c1, .slice a2 m2 c2, .slice a3 m3 c3] 54)) (.bool lb) (.slice d1 e1 f1) (.slice d2 e2 f2) (.slice d3 e3 f3) 54
    have e : (w2.alloc (.cells #[.bool la, .slice a1 m1 c1, .slice a2 m2 c2, .slice a3 m3 c3] 54)).heap.size = w2.heap.size + 1 := by simp
    rw [e] at q
    exact q
  go_upto_region 5 with fail
  generalize (w2.alloc (.cells #[.bool la, .slice a1 m1 c1, .slice a2 m2 c2, .slice a3 m3 c3] 54)).alloc (.cells #[.bool lb, .slice d1 e1 f1, .slice d2 e2 f2, .slice d3 e3 f3] 54) = w3 at *
  have b03 : Hid _ := nextB b01.out (nextB b2.out b3.out)
  have C3 : Hid _ := (C1.out.below b2.out).below b3.out
  have H3 : Hid _ := HH.out.below b03.out
  have Pa3 : Hid _ := Pa.out.below b3.out
  have Pb3 : Hid _ := Pb.out.below b3.out
  have ob1 : Hid (sl.ownBlock ≠ some (w.heap.size + 1)) := HH.out.newer _ (by omega)
  have s2 : Hid (w.heap.size + 2 ≤ w2.heap.size) := (by have := C1.out.lt; have := b2.out.size; omega : w.heap.size + 2 ≤ w2.heap.size)
  obtain ⟨y0, y1, y2, y3⟩ := BA.out.b4
  by_cases sick : n + 1 = ill
  · have SK : Hid _ := sick
    have K2 : Hid _ := sAdd_ill P sl vs sh ill n (.agg #[.bool la, .slice a1 m1 c1, .slice a2 m2 c2, .slice a3 m3 c3]) PA w3 H3.out (by omega) sick Pa3.out
    clear sick
    go_wp2_with fail
    refine Calls.mono K2.out ?_
    rintro e w4 ⟨rfl, S4', G4'⟩
    have S4 : Hid _ := S4'
    have G4 : Hid _ := G4'
    clear S4' G4' K2 y0 y1 y2 y3
    have C4 : Hid _ := C3.out.gw G4.out gA.out.2 (by simp)
    have c0 := C4.out.a0
    have c1 := C4.out.a1
    have cz := C4.out.fz
    have X : Hid _ := C4.out.put (.slice none 0 0) (.slice none 0 0)
    have nb : Hid _ := C4.out.nt (nt_slice _ _ _) (nt_slice _ _ _)
    have Y : Hid _ := AddP.of (S4.out.far X.out.2 gA.out.2 ob1.out nb.out) ((Gw.ahead b03.out G4.out).store X.out.2 (by omega))
    rw [SK.out] at Y
    have iz : Hid (0 < ill) := (by have := SK.out; omega : 0 < ill)
    go_upto_region 6 with fail
    go_wp2
    generalize (w4.setCell ⟨w.heap.size + 1, 0, none⟩ (.slice none 0 0)).setCell ⟨w.heap.size + 1, 1, none⟩ (.slice none 0 0) = w9 at *
    have t0 := X.out.1.a0
    have t1 := X.out.1.a1
    exact bodyPost_ret (v := .tuple #[.agg #[.slice none 0 0, .slice none 0 0], .int .i64 4]) (by simp [results, Try.results32, go_sem, t0, t1]) rfl (Or.inr ⟨_, _, _, _, _, _, [], rfl, by rw [List.append_nil]; exact Y.out, iz.out⟩)
  · have SK : Hid _ := sick
    have K1 : Hid _ := sAdd_ok P sl vs sh ill n (.agg #[.bool la, .slice a1 m1 c1, .slice a2 m2 c2, .slice a3 m3 c3]) PA w3 H3.out (by omega) hi sick Pa3.out pa.out (by have := HL.out; omega)
    clear sick
    go_wp2_with fail
    refine Calls.mono K1.out ?_
    rintro e w4 ⟨rfl, A4'⟩
    obtain ⟨sl4, vs4, S4', G4', N4'⟩ := A4'
    have S4 : Hid _ := S4'
    have G4 : Hid _ := G4'
    have N4 : Hid _ := N4'
    clear S4' G4' N4' K1 y0 y1 y2 y3
    have ob4 : Hid (∀ A, w.heap.size ≤ A → A < w3.heap.size → sl4.ownBlock ≠ some A) := fun A hA hA2 e => by
      rcases N4.out with q | ⟨g, q, hg⟩
      · exact HH.out.newer A hA (q.symm.trans e)
      · rw [q] at e
        have := Option.some.inj e
        omega
    have obA : Hid (∀ A, w.heap.size ≤ A → some A ≠ sl.ownBlock) := fun A hA e => HH.out.newer A hA e.symm
    have C4 : Hid _ := C3.out.gw G4.out gA.out.2 (obA.out _ (by omega))
    have Pb4 : Hid _ := Pb3.out.gw pb.out G4.out H3.out.ntP H3.out.nt
    have BB4 : Hid _ := BB.out.gw G4.out (by have := s2.out; have := lt.out; omega) (obA.out _ (by have := s2.out; omega))
    obtain ⟨y0, y1, y2, y3⟩ := BB4.out.b4
    have WL2 : Hid (ill = 0 ∨ n + 1 < ill) := WL.out.imp id (fun q => Nat.lt_of_le_of_ne q SK.out)
    obtain ⟨k, hk⟩ : ∃ k : Nat, k = sh.length + 1 := ⟨_, rfl⟩
    rw [← hk]
    have HKK : Hid _ := hk
    have k1 : k < 18446744073709551615 := by have := HL.out; omega
    have sl4l : Hid ((sh ++ [PA]).length = k) := (by rw [hk]; simp : (sh ++ [PA]).length = k)
    clear hk
    go_upto_region 8 with fail
    by_cases sick2 : n + 1 + 1 = ill
    · have SK2 : Hid _ := sick2
      have K2 : Hid _ := sAdd_ill P sl4 vs4 (sh ++ [PA]) ill (n + 1) (.agg #[.bool lb, .slice d1 e1 f1, .slice d2 e2 f2, .slice d3 e3 f3]) PB w4 S4.out (by omega) sick2 Pb4.out
      clear sick2
      go_wp2_with fail
      refine Calls.mono K2.out ?_
      rintro e w5 ⟨rfl, S5', G5'⟩
      have S5 : Hid _ := S5'
      have G5 : Hid _ := G5'
      clear S5' G5' K2 y0 y1 y2 y3
      have b6 : Hid (Below w5.heap.size w5 ((w5.alloc (.cells #[.string KEY] 9)).alloc (.cells #[.int .u64 (k : Nat), .int .u64 0] 27))) := nextB (allocB w5 _) (allocB _ _)
      have C6 : Hid _ := (C4.out.gw G5.out gA.out.2 (by simp)).below b6.out
      have c0 := C6.out.a0
      have c1 := C6.out.a1
      have cz := C6.out.fz
      have X : Hid _ := C6.out.put (.slice (some ⟨w5.heap.size, 0, none⟩) 1 1) (.slice (some ⟨w5.heap.size + 1, 0, none⟩) 2 2)
      have nb : Hid _ := C6.out.nt (nt_slice _ _ _) (nt_slice _ _ _)
      have Y : Hid (AddP w _ P sl (sh ++ [PA]) ill (n + 1 + 1)) := ⟨sl4, vs4, (S5.out.below b6.out).far X.out.2 gA.out.2 (ob4.out _ (by omega) C3.out.lt) nb.out, (((Gw.ahead b03.out G4.out).trans (G5.out.any _) (Or.inl rfl)).next b6.out).store X.out.2 (by omega), N4.out.imp id (fun ⟨g, q, hg⟩ => ⟨g, q, Nat.le_trans b03.out.size hg⟩)⟩
      rw [SK2.out] at Y
      have iz : Hid (0 < ill) := (by have := SK2.out; omega : 0 < ill)
      go_upto_region 9 with fail
      go_wp2
      generalize (((w5.alloc (.cells #[.string KEY] 9)).alloc (.cells #[.int .u64 (k : Nat), .int .u64 0] 27)).setCell ⟨w.heap.size + 1, 0, none⟩ (.slice (some ⟨w5.heap.size, 0, none⟩) 1 1)).setCell ⟨w.heap.size + 1, 1, none⟩ (.slice (some ⟨w5.heap.size + 1, 0, none⟩) 2 2) = w9 at *
      have t0 := X.out.1.a0
      have t1 := X.out.1.a1
      exact bodyPost_ret (v := .tuple #[.agg #[.slice (some ⟨w5.heap.size, 0, none⟩) 1 1, .slice (some ⟨w5.heap.size + 1, 0, none⟩) 2 2], .int .i64 4]) (by simp [results, Try.results32, go_sem, t0, t1]) rfl (Or.inr ⟨_, _, _, _, _, _, [PA], rfl, Y.out, iz.out⟩)
    · have SK2 : Hid _ := sick2
      have K1 : Hid _ := sAdd_ok P sl4 vs4 (sh ++ [PA]) ill (n + 1) (.agg #[.bool lb, .slice d1 e1 f1, .slice d2 e2 f2, .slice d3 e3 f3]) PB w4 S4.out (by omega) hi sick2 Pb4.out pb.out (by have := HL.out; simp; omega)
      rw [sl4l.out] at K1
      clear sick2
      go_wp2_with fail
      refine Calls.mono K1.out ?_
      rintro e w5 ⟨rfl, A5'⟩
      obtain ⟨sl6, vs6, S6', G6', N6'⟩ := AddP.trans G4.out N4.out A5'
      have S6 : Hid _ := S6'
      have G6 : Hid _ := G6'
      have N6 : Hid _ := N6'
      obtain ⟨_, _, _, G5', _⟩ := A5'
      have C5 : Hid _ := C4.out.gw G5' gA.out.2 (fun e => ob4.out _ (by omega) C3.out.lt e.symm)
      clear S6' G6' N6' G5' K1 y0 y1 y2 y3
      obtain ⟨k2, hk2⟩ : ∃ k2 : Nat, k2 = k + 1 := ⟨_, rfl⟩
      rw [← hk2]
      have k3 : k2 < 18446744073709551616 := by omega
      have ob6 : Hid (sl6.ownBlock ≠ some (w.heap.size + 1)) := fun e => by
        rcases N6.out with q | ⟨g, q, hg⟩
        · exact ob1.out (q.symm.trans e)
        · rw [q] at e
          have := Option.some.inj e
          have := C3.out.lt
          omega
      have b6 : Hid (Below w5.heap.size w5 ((w5.alloc (.cells #[.string KEY] 9)).alloc (.cells #[.int .u64 (k : Nat), .int .u64 (k2 : Nat)] 27))) := nextB (allocB w5 _) (allocB _ _)
      have C6 : Hid _ := C5.out.below b6.out
      have c0 := C6.out.a0
      have c1 := C6.out.a1
      have cz := C6.out.fz
      have X : Hid _ := C6.out.put (.slice (some ⟨w5.heap.size, 0, none⟩) 1 1) (.slice (some ⟨w5.heap.size + 1, 0, none⟩) 2 2)
      have nb : Hid _ := C6.out.nt (nt_slice _ _ _) (nt_slice _ _ _)
      have Y : Hid (AddP w _ P sl (sh ++ [PA] ++ [PB]) ill (n + 1 + 1)) := ⟨sl6, vs6, (S6.out.below b6.out).far X.out.2 gA.out.2 ob6.out nb.out, ((Gw.ahead b03.out G6.out).next b6.out).store X.out.2 (by omega), N6.out.imp id (fun ⟨g, q, hg⟩ => ⟨g, q, Nat.le_trans b03.out.size hg⟩)⟩
      have RV : Hid (RunV _ (.slice (some ⟨w5.heap.size, 0, none⟩) 1 1) (.slice (some ⟨w5.heap.size + 1, 0, none⟩) 2 2) ⟨[KEY], [k, k2]⟩) := RunV.mk (Or.inr ⟨KEY, w5.heap.size, rfl, rfl, (X.out.2.block w5.heap.size (by simp; omega) (fun e => by have := Option.some.inj e; have := C5.out.lt; omega)).trans ((Below.heap_alloc _ _ _ (by simp)).trans (heap_alloc_new w5 _))⟩) (Or.inr ⟨_, _, 2, 2, rfl, Or.inr rfl, rfl, (sl_two w5 KEY k k2).gwK (fun x hx => by have := HKK.out; simp at hx; omega) (Gw.of_grown X.out.2) nb.out (fun b hb => by cases hb)⟩) (fun x hx => by have := HKK.out; simp at hx; omega) (fun x hx => by have := HKK.out; simp at hx; omega) (fun e => by simp at e)
      have HK2 : Hid _ := hk2
      have e3 : Hid (sh ++ [PA] ++ [PB] = sh ++ [PA, PB]) := (by simp : sh ++ [PA] ++ [PB] = sh ++ [PA, PB])
      have e4 : Hid (sh.length + 2 = k2) := (by have := HKK.out; omega : sh.length + 2 = k2)
      rw [e3.out] at Y
      clear hk2
      go_upto_region 9 with fail
      go_wp2
      generalize (((w5.alloc (.cells #[.string KEY] 9)).alloc (.cells #[.int .u64 (k : Nat), .int .u64 (k2 : Nat)] 27)).setCell ⟨w.heap.size + 1, 0, none⟩ (.slice (some ⟨w5.heap.size, 0, none⟩) 1 1)).setCell ⟨w.heap.size + 1, 1, none⟩ (.slice (some ⟨w5.heap.size + 1, 0, none⟩) 2 2) = w9 at *
      have t0 := X.out.1.a0
      have t1 := X.out.1.a1
      refine bodyPost_ret (v := .tuple #[.agg #[.slice (some ⟨w5.heap.size, 0, none⟩) 1 1, .slice (some ⟨w5.heap.size + 1, 0, none⟩) 2 2], .int .i64 0]) (by simp [results, Try.results32, go_sem, t0, t1]) rfl (Or.inl ⟨_, _, n + 1 + 1, rfl, by rw [← HKK.out, e4.out]; exact RV.out, Y.out, by omega, by omega, ?_⟩)
      rcases WL2.out with q | q
      · exact Or.inl q
      · exact Or.inr (Nat.lt_of_le_of_ne q SK2.out)

end Go.Proofs.Ythdjghmipepppaa

