/- The collector takes in a leaf. -/
import Derived.Test.YthdjghmipepppaaMy
namespace Go.Proofs.Ythdjghmipepppaa
open Go.RowKit Go.Shelf
set_option linter.unusedVariables false
set_option linter.unusedSimpArgs false
attribute [local go_sem] Oper.semAt_some

/-- All stays but blocks P and C and the items' row. -/
structure Fr (w w' : World) (P C : Nat) (o : Option Nat) : Prop where
  os : w'.os = w.os
  tape : w'.tape = w.tape
  output : w'.output = w.output
  size : w.heap.size ≤ w'.heap.size
  block : ∀ k, k < w.heap.size → k ≠ P → k ≠ C → some k ≠ o → w'.heap[k]? = w.heap[k]?
def Nw (w : World) (o o' : Option Nat) : Prop := o' = o ∨ ∃ g, o' = some g ∧ w.heap.size ≤ g
theorem Nw.trans {a b : World} {o o1 o2 : Option Nat} (h : Nw a o o1) (k : Nw b o1 o2) (s : a.heap.size ≤ b.heap.size) : Nw a o o2 := by
  rcases k with rfl | ⟨g, rfl, hg⟩
  · exact h
  · exact Or.inr ⟨g, rfl, by omega⟩
theorem Fr.refl (w : World) (P C : Nat) (o : Option Nat) : Fr w w P C o := ⟨rfl, rfl, rfl, Nat.le_refl _, fun _ _ _ _ _ => rfl⟩
theorem Fr.trans {a b c : World} {P C : Nat} {o o' : Option Nat} (h : Fr a b P C o) (k : Fr b c P C o') (ho : Nw a o o') : Fr a c P C o :=
  ⟨k.os.trans h.os, k.tape.trans h.tape, k.output.trans h.output, Nat.le_trans h.size k.size, fun i h1 h2 h3 h4 => (k.block i (Nat.lt_of_lt_of_le h1 h.size) h2 h3 (fun e => by
    rcases ho with rfl | ⟨g, rfl, hg⟩
    · exact h4 e
    · have := Option.some.inj e; omega)).trans (h.block i h1 h2 h3 h4)⟩
theorem Fr.below {a b c : World} {P C : Nat} {o : Option Nat} (h : Fr a b P C o) (k : Below b.heap.size b c) : Fr a c P C o :=
  h.trans (o' := o) ⟨k.os, k.tape, k.output, k.size, fun i h1 _ _ _ => k.block i h1⟩ (Or.inl rfl)
theorem Fr.grown {a b c : World} {P C : Nat} {o o' : Option Nat} (h : Fr a b P C o) (k : b.grownBy c o') (ho : Nw a o o') : Fr a c P C o :=
  h.trans ⟨k.os, k.tape, k.output, k.size, fun i h1 _ _ h4 => k.block i h1 h4⟩ ho
theorem Fr.grownC {a b c : World} {P C : Nat} {o : Option Nat} (h : Fr a b P C o) (k : b.grownBy c (some C)) : Fr a c P C o :=
  h.trans (o' := o) ⟨k.os, k.tape, k.output, k.size, fun i h1 _ h3 _ => k.block i h1 (fun e => h3 (Option.some.inj e))⟩ (Or.inl rfl)
theorem Fr.gw {a b c : World} {P C : Nat} {o : Option Nat} (h : Fr a b P C o) (k : Gw b c P (some C)) : Fr a c P C o :=
  h.trans (o' := o) ⟨k.os, k.tape, k.output, k.size, fun i h1 h2 h3 _ => k.block i h1 h2 (fun e => h3 (Option.some.inj e))⟩ (Or.inl rfl)
theorem Fr.gw0 {w w1 w' : World} {P : Nat} (b : Below w.heap.size w w1) (h : Fr w1 w' P w.heap.size none) : Gw w w' P none :=
  ⟨h.os.trans b.os, h.tape.trans b.tape, h.output.trans b.output, Nat.le_trans b.size h.size, fun i h1 h2 _ => (h.block i (Nat.lt_of_lt_of_le h1 b.size) h2 (by omega) (by simp)).trans (b.block i h1)⟩
theorem itemInfo : (Try.prog.info? 61).map (fun i => (i.zero, i.size, i.bytes)) = some (some (.agg #[.string ByteArray.empty, .string ByteArray.empty]), 2, 32) := by kernel_rfl
/-- An item more. -/
theorem Col.more {w : World} {C P rd : Nat} {a b : ByteArray} {m : Int} {v : Value} {acc : List It} (h : Col w C P rd a b m v acc) (x : It) (hl : acc.length ≤ 1000000) (B : Nat) (hB : w.heap[B]? = some (.cells #[.string x.1, .string x.2] 61 (0, 0))) (ty : TypeId) :
    ∃ r w', (Builtin.append_ #[33, 33] ty #[v, .slice (some ⟨B, 0, none⟩) 1 1]).run Try.prog w = .ok r w' ∧
      (∃ g cap, r = .slice (some ⟨g, 0, none⟩) (acc.length + 1) cap ∧ w'.ownsRow (C + 1) 61 2 r (acc.length + 1) (cI (acc ++ [x])) ∧ w.grownBy w' v.ownBlock ∧ (v.ownBlock = some g ∨ g = w.heap.size)) := by
  obtain ⟨i0, hi, hz0, hz1, hz2⟩ := info_parts itemInfo
  have hlt := h.rdr.lt
  obtain ⟨g, cap, w', hr, h2, h3, h4, h5⟩ := run_append_lies (P := Try.prog) w 33 ty (C + 1) 61 i0 _ 2 32 Try.underlying33 hi hz0 hz1 hz2 rfl (by decide) v acc.length (cI acc) h.own ⟨B, 0, none⟩ 1 1 (itC x) rfl
    (fun j u hj => World.news_of_block hB j u (by simpa [itC] using hj)) (fun u hu => by simp [itC] at hu; rcases hu with rfl | rfl <;> rfl) (by decide) (by unfold maxLen; omega) (by omega) (by omega) _ rfl
  exact ⟨_, w', hr, g, cap, rfl, by rw [cI_app]; simpa [cI] using h2, h3, h4⟩
/-- A store of the items. -/
theorem Col.put {w w1 : World} {C P rd : Nat} {a b : ByteArray} {m : Int} {v r : Value} {acc acc' : List It} {g cap : Nat} (h : Col w C P rd a b m v acc) (gr : w.grownBy w1 v.ownBlock) (er : r = .slice (some ⟨g, 0, none⟩) acc'.length cap) (ow : w1.ownsRow (C + 1) 61 2 r acc'.length (cI acc')) :
    Col (w1.setCell ⟨C, 5, none⟩ r) C P rd a b m r acc' ∧ w1.grownBy (w1.setCell ⟨C, 5, none⟩ r) (some C) ∧ w1.cell? ⟨C, 5, none⟩ = some v ∧ (∀ i, w1.frozen? ⟨C, i, none⟩ = false) := by
  have hC : w1.heap[C]? = w.heap[C]? := gr.block C h.rdr.lt (fun e => by have := (h.own.lt C e.symm).1; omega)
  have kc : ∀ i, w1.cell? ⟨C, i, none⟩ = w.cell? ⟨C, i, none⟩ := fun i => World.cell?_of_block (w := w) (a := ⟨C, i, none⟩) hC
  have fz := frozen_kept h.rdr.fz hC
  have ne : ∀ i : Nat, i ≠ 5 → (⟨C, 5, none⟩ : Addr) ≠ ⟨C, i, none⟩ := fun i h k => by injection k with _ k; exact h k.symm
  have gs := grownBy_setCell w1 C 5 r
  refine ⟨⟨⟨?_, ?_, fun i => by simp [fz]⟩, ?_, ?_, ?_, World.cell?_setCell_same _ _ _ ((kc 5).trans h.c5), ⟨ow.1, ?_⟩⟩, gs, (kc 5).trans h.c5, fz⟩
  · rw [World.cell?_setCell_other _ _ _ _ (ne 0 (by decide)), kc]; exact h.rdr.r0
  · rw [World.cell?_setCell_other _ _ _ _ (ne 1 (by decide)), kc]; exact h.rdr.r1
  · rw [World.cell?_setCell_other _ _ _ _ (ne 2 (by decide)), kc]; exact h.c2
  · rw [World.cell?_setCell_other _ _ _ _ (ne 3 (by decide)), kc]; exact h.c3
  · rw [World.cell?_setCell_other _ _ _ _ (ne 4 (by decide)), kc]; exact h.c4
  · rcases ow.2 with hn | ⟨g', cap', cur, hv, hb, hg, rest⟩
    · exact .inl hn
    · exact .inr ⟨g', cap', cur, hv, hb, by rw [gs.block g' (Array.getElem?_eq_some_iff.1 hg).1 (fun e => by have := Option.some.inj e; omega)]; exact hg, rest⟩
/-- While a leaf is taken in. -/
structure Tk (w wr : World) (C P rd : Nat) (a b : ByteArray) (m : Int) (sl : Value) (vs : List V4) (sh : List Pg) (n : Nat) (lf : Bool) (kk vv ii : Value) (p : Pg) (o0 : Option Nat) (v : Value) (acc : List It) : Prop where
  col : Col wr C P rd a b m v acc
  box : Bq wr w.heap.size (.bool lf) kk vv ii
  pv : Pv wr (.agg #[.bool lf, kk, vv, ii]) p
  shf : Shf wr P sl vs sh 0 n
  fr : Fr w wr P C o0
  no : Nw w o0 v.ownBlock
  ne : v.ownBlock ≠ some w.heap.size
  sz : w.heap.size + 1 ≤ wr.heap.size
theorem Tk.below {w wr wx : World} {C P rd : Nat} {a b : ByteArray} {m : Int} {sl : Value} {vs : List V4} {sh : List Pg} {n : Nat} {lf : Bool} {kk vv ii : Value} {p : Pg} {o0 : Option Nat} {v : Value} {acc : List It} (h : Tk w wr C P rd a b m sl vs sh n lf kk vv ii p o0 v acc) (k : Below wr.heap.size wr wx) : Tk w wx C P rd a b m sl vs sh n lf kk vv ii p o0 v acc :=
  ⟨h.col.below k, h.box.below k, h.pv.below k, h.shf.below k, h.fr.below k, h.no, h.ne, Nat.le_trans h.sz k.size⟩
theorem Tk.more {w wr w1 : World} {C P rd : Nat} {a b : ByteArray} {m : Int} {sl : Value} {vs : List V4} {sh : List Pg} {n : Nat} {lf : Bool} {kk vv ii : Value} {p : Pg} {o0 : Option Nat} {v r : Value} {acc acc' : List It} {g cap : Nat} (h : Tk w wr C P rd a b m sl vs sh n lf kk vv ii p o0 v acc) (hC : C < w.heap.size) (hP : P < C) (hsl : ∀ B, C ≤ B → sl.ownBlock ≠ some B) (hoff : ∀ B, C ≤ B → OffV vs B) (hy : ∀ B, C ≤ B → Off (.agg #[.bool lf, kk, vv, ii]) B)
    (gr : wr.grownBy w1 v.ownBlock) (er : r = .slice (some ⟨g, 0, none⟩) acc'.length cap) (ow : w1.ownsRow (C + 1) 61 2 r acc'.length (cI acc')) (og : v.ownBlock = some g ∨ g = wr.heap.size) :
    Tk w (w1.setCell ⟨C, 5, none⟩ r) C P rd a b m sl vs sh n lf kk vv ii p o0 r acc' := by
  obtain ⟨c1, c2, c3, c4⟩ := h.col.put gr er ow
  have og' : ∀ g', v.ownBlock = some g' → C + 1 ≤ g' := fun g' e => (h.col.own.lt g' e).1
  have b1 : Bq w1 w.heap.size (.bool lf) kk vv ii := h.box.kept (gr.block _ h.box.lt (fun e => h.ne e.symm))
  have b2 : Bq (w1.setCell ⟨C, 5, none⟩ r) w.heap.size (.bool lf) kk vv ii := b1.kept (c2.block _ b1.lt (fun e => by have := Option.some.inj e; omega))
  have p1 : Pv w1 (.agg #[.bool lf, kk, vv, ii]) p ∧ Shf w1 P sl vs sh 0 n := by
    cases ob : v.ownBlock with
    | none =>
      rw [ob] at gr
      have bl : Below wr.heap.size wr w1 := ⟨gr.os, gr.tape, gr.output, gr.size, fun b hb => gr.block b hb (by simp)⟩
      exact ⟨h.pv.below bl, h.shf.below bl⟩
    | some g' =>
      have l := og' g' ob
      rw [ob] at gr
      exact ⟨h.pv.out gr (hy g' (by omega)), h.shf.far' gr (by omega) (hsl g' (by omega)) (hoff g' (by omega))⟩
  have sz := h.sz
  have s1 := gr.size
  have s2 := c2.size
  refine ⟨c1, b2, p1.1.out c2 (hy C (Nat.le_refl _)), p1.2.far' c2 (by omega) (hsl C (Nat.le_refl _)) (hoff C (Nat.le_refl _)), (h.fr.grown gr h.no).grownC c2, ?_, fun e => ?_, by omega⟩
  · rw [er]
    rcases og with q | q
    · exact (h.no.trans (Or.inl (by rw [q]; rfl)) h.fr.size)
    · exact Or.inr ⟨g, rfl, by omega⟩
  rw [er] at e
  have e2 : g = w.heap.size := by simpa [Value.ownBlock] using e
  rcases og with q | q
  · exact h.ne (by rw [q, e2])
  · omega

set_option maxRecDepth 100000 in
set_option maxHeartbeats 8000000 in
theorem take_any (C P rd : Nat) (a b : ByteArray) (m : Int) (v : Value) (acc : List It) (sl : Value) (vs : List V4) (sh : List Pg) (n : Nat) (y : V4) (p : Pg) (w : World) (h : Col w C P rd a b m v acc) (s : Shf w P sl vs sh 0 n) (hP : P < C) (hsl : ∀ B, C ≤ B → sl.ownBlock ≠ some B) (hoff : ∀ B, C ≤ B → OffV vs B) (hy : y ∈ vs) (pv : Pv w y.agg p)
    (g : goodB p = true) (l : p.leaf = true) (ft : Fit p) (hl : acc.length ≤ 1000) (hl2 : p.keys.length ≤ 127) :
    Calls Try.prog 70 #[.pointer (some ⟨C, 0, none⟩), y.agg] w fun e w' => e = .returned (.tuple #[]) ∧ ∃ v', Col w' C P rd a b m v' (cutL a b m acc (zipK p.keys p.vals)) ∧ Shf w' P sl vs sh 0 n ∧ Fr w w' P C v.ownBlock ∧ Nw w v.ownBlock v'.ownBlock := by
  have HY : Hid (∀ B, C ≤ B → Off y.agg B) := fun B hB => hoff B hB y hy
  have HS : Hid _ := hsl
  have HO : Hid _ := hoff
  have EV : Hid _ := (goodB_leaf g l).1
  have RS : Hid _ := (leaf_keys g).1
  have HL : Hid _ := hl
  have HL2 : Hid _ := hl2
  have HC : Hid (C < w.heap.size) := h.rdr.lt
  have HN : Hid _ := fun (g : Nat) (e : v.ownBlock = some g) => (h.own.lt g e).2
  obtain ⟨lf, ka, kn, kc, va, vn, vc, ia, im, ic⟩ := y
  dsimp only [V4.agg] at *
  have KF : Hid _ := fun W (q : Pv W (.agg #[.bool lf, .slice ka kn kc, .slice va vn vc, .slice ia im ic]) p) => Find_leaf _ p a W q ft.bd (leaf_keys g).1 l
  have PL : Hid _ := pos_le p.keys a
  have T0 : Hid (Tk w (w.alloc (.cells #[.bool lf, .slice ka kn kc, .slice va vn vc, .slice ia im ic] 54)) C P rd a b m sl vs sh n lf (.slice ka kn kc) (.slice va vn vc) (.slice ia im ic) p v.ownBlock v acc) :=
    ⟨h.below (allocB _ _), Bq.new w _ _ _ _ _, pv.below (allocB _ _), s.below (allocB _ _), (Fr.refl w P C _).below (allocB _ _), Or.inl rfl, fun e => by have := HN.out _ e; omega, by simp⟩
  clear h s hsl hoff hy pv g l ft hl hl2
  go_enter Try.func70, Try.ntmps70
  go_upto_region 1 with fail
  generalize w.alloc (.cells #[.bool lf, .slice ka kn kc, .slice va vn vc, .slice ia im ic] 54) = w1 at *
  refine wp_region_held_drew (S := (fun W => W.cell? ⟨w.heap.size, 0, none⟩ = some (.bool lf) ∧ W.cell? ⟨w.heap.size, 1, none⟩ = some (.slice ka kn kc) ∧ W.cell? ⟨w.heap.size, 2, none⟩ = some (.slice va vn vc) ∧ W.cell? ⟨w.heap.size, 3, none⟩ = some (.slice ia im ic) ∧ W.cell? ⟨C, 2, none⟩ = some (.string a))) (by kernel_rfl) ⟨(T0.out.below (Below.refl w1.heap.size w1).drew).box.b4.a0, (T0.out.below (Below.refl w1.heap.size w1).drew).box.b4.a1, (T0.out.below (Below.refl w1.heap.size w1).drew).box.b4.a2, (T0.out.below (Below.refl w1.heap.size w1).drew).box.b4.a3, (T0.out.below (Below.refl w1.heap.size w1).drew).col.c2⟩ (fun hHeld => ?_)
  have T1 : Hid _ := T0.out.below (Below.refl w1.heap.size w1).drew
  generalize w1.drew = w2 at *
  clear T0
  refine take2 rfl (i := 0) (v := (.agg #[.bool lf, .slice ka kn kc, .slice va vn vc, .slice ia im ic])) (d := 9) rfl rfl (by kernel_rfl) (by kernel_rfl) (by kernel_rfl) (fun _ _ _ h => h) (Or.inl ⟨by rfl, ?_⟩) hHeld ?_
  · (intro W hW; (try dsimp only at hW); go_simp)
  try simp only [Act.put, List.setIfInBounds_toArray, List.set_cons_zero, List.set_cons_succ]
  refine take2 rfl (i := 1) (v := (.pointer (some ⟨C, 0, none⟩))) (d := 10) rfl rfl (by kernel_rfl) (by kernel_rfl) (by kernel_rfl) (fun _ _ _ h => h) (Or.inl ⟨by rfl, ?_⟩) hHeld ?_
  · (intro W hW; (try dsimp only at hW); go_simp)
  try simp only [Act.put, List.setIfInBounds_toArray, List.set_cons_zero, List.set_cons_succ]
  refine take2 rfl (i := 2) (v := (.pointer (some ⟨C, 0, none⟩))) (d := 11) rfl rfl (by kernel_rfl) (by kernel_rfl) (by kernel_rfl) (fun _ _ _ h => h) (Or.inl ⟨by rfl, ?_⟩) hHeld ?_
  · (intro W hW; (try dsimp only at hW); go_simp)
  try simp only [Act.put, List.setIfInBounds_toArray, List.set_cons_zero, List.set_cons_succ]
  refine take2 rfl (i := 3) (v := (.pointer (some ⟨C, 2, none⟩))) (d := 12) rfl rfl (by kernel_rfl) (by kernel_rfl) (by kernel_rfl) (fun _ _ _ h => h) (Or.inl ⟨by rfl, ?_⟩) hHeld ?_
  · (intro W hW; (try dsimp only at hW); go_simp)
  try simp only [Act.put, List.setIfInBounds_toArray, List.set_cons_zero, List.set_cons_succ]
  refine take2 rfl (i := 4) (v := (.string a)) (d := 13) rfl rfl (by kernel_rfl) (by kernel_rfl) (by kernel_rfl) (fun _ _ _ h => h) (Or.inl ⟨by rfl, ?_⟩) hHeld ?_
  · (intro W hW; (try dsimp only at hW); go_simp)
  try simp only [Act.put, List.setIfInBounds_toArray, List.set_cons_zero, List.set_cons_succ]
  refine wpAnyH_ready (rs := [5]) (by kernel_rfl) (by simp) ?_
  refine cons2 rfl rfl (fun K9 hK => ?_)
  go_simp
  go_at_call 34
  refine Calls.mono (KF.out _ T1.out.pv) ?_
  rintro e w3 ⟨rfl, b3⟩
  have T2 : Hid _ := T1.out.below b3
  clear b3 T1
  go_wp2_with fail
  refine hK.out _ _ ⟨T2.out.box.b4.a0, T2.out.box.b4.a1, T2.out.box.b4.a2, T2.out.box.b4.a3, T2.out.col.c2⟩ (fun hX => ?_)
  clear hK K9 hHeld
  have hHeld := hX
  clear hX
  try simp only [Act.put, List.setIfInBounds_toArray, List.set_cons_zero, List.set_cons_succ]
  refine take2 rfl (i := 6) (v := (.tuple #[.int .i64 (posS p.keys a : Nat), .bool (fnd p.keys a)])) (d := 8) rfl rfl (by kernel_rfl) (by kernel_rfl) (by kernel_rfl) (fun _ _ _ h => h) (Or.inl ⟨by rfl, ?_⟩) hHeld ?_
  · (intro W hW; (try dsimp only at hW); go_simp)
  try simp only [Act.put, List.setIfInBounds_toArray, List.set_cons_zero, List.set_cons_succ]
  refine take2 rfl (i := 7) (v := (.int .i64 (posS p.keys a : Nat))) (d := 15) rfl rfl (by kernel_rfl) (by kernel_rfl) (by kernel_rfl) (fun _ _ _ h => h) (Or.inl ⟨by rfl, ?_⟩) hHeld ?_
  · (intro W hW; (try dsimp only at hW); go_simp)
  try simp only [Act.put, List.setIfInBounds_toArray, List.set_cons_zero, List.set_cons_succ]
  refine take2 rfl (i := 8) (v := (.bool (fnd p.keys a))) (d := 16) rfl rfl (by kernel_rfl) (by kernel_rfl) (by kernel_rfl) (fun _ _ _ h => h) (Or.inl ⟨by rfl, ?_⟩) hHeld ?_
  · (intro W hW; (try dsimp only at hW); go_simp)
  try simp only [Act.put, List.setIfInBounds_toArray, List.set_cons_zero, List.set_cons_succ]
  refine take2 rfl (i := 9) (v := (.int .i64 (posS p.keys a : Nat))) (d := 4) rfl rfl (by kernel_rfl) (by kernel_rfl) (by kernel_rfl) (fun _ _ _ h => h) (Or.inl ⟨by rfl, ?_⟩) hHeld ?_
  · (intro W hW; (try dsimp only at hW); go_simp)
  try simp only [Act.put, List.setIfInBounds_toArray, List.set_cons_zero, List.set_cons_succ]
  refine take2 rfl (i := 10) (v := (.bool (fnd p.keys a))) (d := 5) rfl rfl (by kernel_rfl) (by kernel_rfl) (by kernel_rfl) (fun _ _ _ h => h) (Or.inl ⟨by rfl, ?_⟩) hHeld ?_
  · (intro W hW; (try dsimp only at hW); go_simp)
  try simp only [Act.put, List.setIfInBounds_toArray, List.set_cons_zero, List.set_cons_succ]
  refine wpAnyH_done (by kernel_rfl) ?_ _
  clear hHeld
  obtain ⟨_, _, _, _, _, _, _, _, _, e1, k1, k2, _⟩ := T2.out.pv.ex
  injection e1 with e1
  have e2 := congrArg Array.toList e1
  simp only [List.cons.injEq] at e2
  obtain ⟨e5, e4, e3, e6⟩ := e2
  clear e5 e6
  injection e3 with q1 q2 q3
  injection e4 with q4 q5 q6
  subst q1 q2 q3 q4 q5 q6
  have l1 := k1.slen
  have l2 := k2.slen
  have pl := PL.out
  obtain ⟨a', F1, F2⟩ := cutF Try.underlying52 strInfo k1 (posS p.keys a) (by omega)
  have HF : Hid (∀ W, Pv W (.agg #[.bool lf, .slice ka kn kc, .slice va vn vc, .slice ia im ic]) p → Sl W a' (kn - posS p.keys a) (kc - posS p.keys a) (sv p.keys |>.drop (posS p.keys a)) ∧ Sl W va vn vc (sv p.vals)) := fun W q => by
    obtain ⟨_, _, _, _, _, _, _, _, _, e1, k1, k2, _⟩ := q.ex
    injection e1 with e1
    have e2 := congrArg Array.toList e1
    simp only [List.cons.injEq] at e2
    obtain ⟨_, e4, e3, _⟩ := e2
    injection e3 with q1 q2 q3
    injection e4 with q4 q5 q6
    subst q1 q2 q3 q4 q5 q6
    exact ⟨F2 W k1, k2⟩
  obtain ⟨j0, hj0⟩ : ∃ j0, j0 = posS p.keys a := ⟨_, rfl⟩
  have J0 : Hid _ := hj0
  rw [← hj0] at F1 HF pl ⊢
  obtain ⟨y0, y1, y2, y3⟩ := T2.out.box.b4
  clear e1 k1 k2 hj0 F2
  go_upto_region 3 with fail
  have T3 : Hid (Tk w w3 C P rd a b m sl vs sh n lf (.slice ka kn kc) (.slice va vn vc) (.slice ia im ic) p v.ownBlock v (cutL a b m acc ((zipK p.keys p.vals).take (j0 + 0)))) := by
    rw [Nat.add_zero, J0.out, leaf_cut0 EV.out]
    exact T2.out
  clear y0 y1 y2 y3 T2 F1
  go_loopg [22] (kn - j0) (fun g iv wr => ∃ (i : Nat) (v' : Value), i ≤ kn - j0 ∧ g = kn - j0 - i ∧ iv = .int .i64 (i : Nat) ∧ Hid (Tk w wr C P rd a b m sl vs sh n lf (.slice ka kn kc) (.slice va vn vc) (.slice ia im ic) p v.ownBlock v' (cutL a b m acc ((zipK p.keys p.vals).take (j0 + i)))))
  case atStart => exact ⟨0, v, by omega, by omega, rfl, T3.out⟩
  case round =>
    obtain ⟨i, v', hi, rfl, rfl, T⟩ := hrel
    obtain ⟨SK, SV⟩ := HF.out wr T.out.pv
    by_cases c : i < kn - j0
    · have c' : (i : Int) < ((kn - j0 : Nat) : Int) := by omega
      obtain ⟨kb, ko, rfl, _⟩ := SK.at (by omega)
      obtain ⟨vb, vo, rfl, _⟩ := SV.at (by have := EV.out; omega)
      have kcell : wr.cell? ⟨kb, ko + i, none⟩ = some (.string (kAt p.keys (j0 + i))) := by
        obtain ⟨b2, o2, q1, q2⟩ := SK.cell
        have q3 := q1 (by omega)
        injection q3 with q3
        injection q3 with q4 q5
        subst q4 q5
        refine q2 i _ ?_
        rw [List.getElem?_drop]
        unfold sv
        rw [List.getElem?_map, List.getElem?_eq_getElem (by omega)]
        simp only [Option.map_some]
        rw [kAt_get (by omega)]
      have VC : Hid (∀ W, Pv W (.agg #[.bool lf, .slice ka kn kc, .slice (some ⟨vb, vo, none⟩) vn vc, .slice ia im ic]) p → W.cell? ⟨vb, vo + (j0 + i), none⟩ = some (.string (kAt p.vals (j0 + i)))) := fun W q => (HF.out W q).2.str (by have := EV.out; omega)
      have VO : Hid (∀ x, x = vb → ¬ (C ≤ vb)) := fun x _ hx => by
        have q := HY.out vb hx
        exact (q _ _ _ _ _ _ _ _ _ _ rfl).2.1 _ (by have := EV.out; omega) rfl rfl
      have vlt : j0 + i < vn := by have := EV.out; omega
      have AL0 : ((cutL a b m acc ((zipK p.keys p.vals).take (j0 + i))).length ≤ 2000) := by
        have q1 := cutL_len (a := a) (b := b) (m := m) (acc := acc) (L := (zipK p.keys p.vals).take (j0 + i))
        have q2 := HL.out
        have q3 := HL2.out
        rw [List.length_take] at q1
        have q4 := zipK_len EV.out
        omega
      have AL : Hid _ := AL0
      clear AL0
      have LE : Hid _ := fun q => leaf_end (acc := acc) (m := m) (a := a) (b := b) EV.out RS.out (j := j0 + i) (by omega) q
      have LM : Hid _ := fun q1 q2 => leaf_more (acc := acc) (m := m) (a := a) (b := b) EV.out RS.out (j := j0 + i) (by have := J0.out; omega) (by omega) q1 q2
      clear SK SV
      generalize kAt p.keys (j0 + i) = xk at *
      generalize kAt p.vals (j0 + i) = xv at *
      obtain ⟨acc', hacc⟩ : ∃ acc', acc' = cutL a b m acc ((zipK p.keys p.vals).take (j0 + i)) := ⟨_, rfl⟩
      rw [← hacc] at T AL LE LM
      clear hacc
      have FA : Hid _ := full_any _ _ _ _ _ _ _ _ wr T.out.col
      go_wp2_with fail
      refine Calls.mono FA.out ?_
      rintro e w2 ⟨rfl, b2⟩
      have T2 : Hid _ := T.out.below b2
      clear FA b2 T kcell
      cases fl : decide (m ≤ (acc'.length : Nat)) with
      | true =>
        have LE2 : Hid _ := LE.out (Or.inl (of_decide_eq_true fl))
        go_wp2
        exact bodyPost_ret (v := .tuple #[]) (by simp [results, Try.results70, go_sem]) rfl ⟨rfl, _, by rw [LE2.out]; exact T2.out.col, T2.out.shf, T2.out.fr, T2.out.no⟩
      | false =>
        have EA : Hid _ := ends_any _ _ _ _ _ _ _ _ xk w2 T2.out.col
        go_wp2_with fail
        refine Calls.mono EA.out ?_
        rintro e w3 ⟨rfl, b2⟩
        have T2b : Hid _ := T2.out.below b2
        clear EA b2 T2
        cases en : endsB b xk with
        | true =>
          have LE2 : Hid _ := LE.out (Or.inr en)
          go_wp2
          exact bodyPost_ret (v := .tuple #[]) (by simp [results, Try.results70, go_sem]) rfl ⟨rfl, _, by rw [LE2.out]; exact T2b.out.col, T2b.out.shf, T2b.out.fr, T2b.out.no⟩
        | false =>
          have CE : Hid _ := LM.out (by have := of_decide_eq_false fl; omega) en
          clear LE LM fl en
          obtain ⟨ra, rc, rfl⟩ := T2b.out.col.sl
          go_upto_region 6 with fail
          refine wp_region_held_drew (S := (fun W => W.cell? ⟨w.heap.size, 0, none⟩ = some (.bool lf) ∧ W.cell? ⟨w.heap.size, 1, none⟩ = some (.slice ka kn kc) ∧ W.cell? ⟨w.heap.size, 2, none⟩ = some (.slice (some ⟨vb, vo, none⟩) vn vc) ∧ W.cell? ⟨w.heap.size, 3, none⟩ = some (.slice ia im ic) ∧ W.cell? ⟨vb, vo + (j0 + i), none⟩ = some (.string xv))) (by kernel_rfl) ⟨(T2b.out.below (Below.refl w3.heap.size w3).drew).box.b4.a0, (T2b.out.below (Below.refl w3.heap.size w3).drew).box.b4.a1, (T2b.out.below (Below.refl w3.heap.size w3).drew).box.b4.a2, (T2b.out.below (Below.refl w3.heap.size w3).drew).box.b4.a3, (VC.out _ (T2b.out.below (Below.refl w3.heap.size w3).drew).pv)⟩ (fun hHeld => ?_)
          have T3 : Hid _ := T2b.out.below (Below.refl w3.heap.size w3).drew
          generalize w3.drew = w4 at *
          clear T2b
          have n2 : j0 + i ≤ 1000000 := by have := HL2.out; omega
          refine take2 rfl (i := 0) (v := (.pointer (some ⟨C, 0, none⟩))) (d := 34) rfl rfl (by kernel_rfl) (by kernel_rfl) (by kernel_rfl) (fun _ _ _ h => h) (Or.inl ⟨by rfl, ?_⟩) hHeld ?_
          · (intro W hW; (try dsimp only at hW); go_simp)
          try simp only [Act.put, List.setIfInBounds_toArray, List.set_cons_zero, List.set_cons_succ]
          refine take2 rfl (i := 1) (v := (.pointer (some ⟨C, 0, none⟩))) (d := 35) rfl rfl (by kernel_rfl) (by kernel_rfl) (by kernel_rfl) (fun _ _ _ h => h) (Or.inl ⟨by rfl, ?_⟩) hHeld ?_
          · (intro W hW; (try dsimp only at hW); go_simp)
          try simp only [Act.put, List.setIfInBounds_toArray, List.set_cons_zero, List.set_cons_succ]
          refine take2 rfl (i := 2) (v := (.pointer (some ⟨C, 0, none⟩))) (d := 36) rfl rfl (by kernel_rfl) (by kernel_rfl) (by kernel_rfl) (fun _ _ _ h => h) (Or.inl ⟨by rfl, ?_⟩) hHeld ?_
          · (intro W hW; (try dsimp only at hW); go_simp)
          try simp only [Act.put, List.setIfInBounds_toArray, List.set_cons_zero, List.set_cons_succ]
          refine take2 rfl (i := 3) (v := (.pointer (some ⟨C, 5, none⟩))) (d := 37) rfl rfl (by kernel_rfl) (by kernel_rfl) (by kernel_rfl) (fun _ _ _ h => h) (Or.inl ⟨by rfl, ?_⟩) hHeld ?_
          · (intro W hW; (try dsimp only at hW); go_simp)
          try simp only [Act.put, List.setIfInBounds_toArray, List.set_cons_zero, List.set_cons_succ]
          refine take2 rfl (i := 5) (v := (.string xk)) (d := 39) rfl rfl (by kernel_rfl) (by kernel_rfl) (by kernel_rfl) (fun _ _ _ h => h) (Or.inl ⟨by rfl, ?_⟩) hHeld ?_
          · (intro W hW; (try dsimp only at hW); go_simp)
          try simp only [Act.put, List.setIfInBounds_toArray, List.set_cons_zero, List.set_cons_succ]
          refine take2 rfl (i := 6) (v := (.pointer (some ⟨w.heap.size, 2, none⟩))) (d := 40) rfl rfl (by kernel_rfl) (by kernel_rfl) (by kernel_rfl) (fun _ _ _ h => h) (Or.inl ⟨by rfl, ?_⟩) hHeld ?_
          · (intro W hW; (try dsimp only at hW); go_simp)
          try simp only [Act.put, List.setIfInBounds_toArray, List.set_cons_zero, List.set_cons_succ]
          refine take2 rfl (i := 7) (v := (.slice (some ⟨vb, vo, none⟩) vn vc)) (d := 41) rfl rfl (by kernel_rfl) (by kernel_rfl) (by kernel_rfl) (fun _ _ _ h => h) (Or.inl ⟨by rfl, ?_⟩) hHeld ?_
          · (intro W hW; (try dsimp only at hW); go_simp)
          try simp only [Act.put, List.setIfInBounds_toArray, List.set_cons_zero, List.set_cons_succ]
          refine take2 rfl (i := 8) (v := (.int .i64 (j0 : Nat))) (d := 42) rfl rfl (by kernel_rfl) (by kernel_rfl) (by kernel_rfl) (fun _ _ _ h => h) (Or.inl ⟨by rfl, ?_⟩) hHeld ?_
          · (intro W hW; (try dsimp only at hW); go_simp)
          try simp only [Act.put, List.setIfInBounds_toArray, List.set_cons_zero, List.set_cons_succ]
          refine take2 rfl (i := 9) (v := (.int .i64 (i : Nat))) (d := 43) rfl rfl (by kernel_rfl) (by kernel_rfl) (by kernel_rfl) (fun _ _ _ h => h) (Or.inl ⟨by rfl, ?_⟩) hHeld ?_
          · (intro W hW; (try dsimp only at hW); go_simp)
          try simp only [Act.put, List.setIfInBounds_toArray, List.set_cons_zero, List.set_cons_succ]
          refine take2 rfl (i := 10) (v := (.int .i64 ((j0 : Int) + (i : Int)))) (d := 44) rfl rfl (by kernel_rfl) (by kernel_rfl) (by kernel_rfl) (fun _ _ _ h => h) (Or.inl ⟨by rfl, ?_⟩) hHeld ?_
          · (intro W hW; (try dsimp only at hW); go_simp; rw [IntKind.wrap_i64]; omega)
          try simp only [Act.put, List.setIfInBounds_toArray, List.set_cons_zero, List.set_cons_succ]
          refine take2 rfl (i := 11) (v := (.pointer (some ⟨vb, vo + (j0 + i), none⟩))) (d := 45) rfl rfl (by kernel_rfl) (by kernel_rfl) (by kernel_rfl) (fun _ _ _ h => h) (Or.inl ⟨by rfl, ?_⟩) hHeld ?_
          · (intro W hW; (try dsimp only at hW); go_simp; rw [if_pos (by omega)]; rw [show ((j0 : Int) + (i : Int)).toNat = j0 + i from by omega])
          try simp only [Act.put, List.setIfInBounds_toArray, List.set_cons_zero, List.set_cons_succ]
          refine take2 rfl (i := 12) (v := (.string xv)) (d := 46) rfl rfl (by kernel_rfl) (by kernel_rfl) (by kernel_rfl) (fun _ _ _ h => h) (Or.inl ⟨by rfl, ?_⟩) hHeld ?_
          · (intro W hW; (try dsimp only at hW); go_simp)
          try simp only [Act.put, List.setIfInBounds_toArray, List.set_cons_zero, List.set_cons_succ]
          refine take2 rfl (i := 13) (v := (.agg #[.string xk, .string xv])) (d := 47) rfl rfl (by kernel_rfl) (by kernel_rfl) (by kernel_rfl) (fun _ _ _ h => h) (Or.inl ⟨by rfl, ?_⟩) hHeld ?_
          · (intro W hW; (try dsimp only at hW); go_simp)
          try simp only [Act.put, List.setIfInBounds_toArray, List.set_cons_zero, List.set_cons_succ]
          refine wpAnyH_ready (rs := [4, 14]) (by kernel_rfl) (by simp) ?_
          refine cons22 rfl rfl rfl (fun K9 hK => ?_) (fun K9 hK => ?_)
          · have c5 := T3.out.col.c5
            go_simp
            go_wp2_with fail
            refine hK.out _ _ ⟨T3.out.box.b4.a0, T3.out.box.b4.a1, T3.out.box.b4.a2, T3.out.box.b4.a3, (VC.out _ T3.out.pv)⟩ (fun hX => ?_)
            clear hK K9 hHeld
            have hHeld := hX
            clear hX
            try simp only [Act.put, List.setIfInBounds_toArray, List.set_cons_zero, List.set_cons_succ]
            clear c5
            refine wpAnyH_ready (rs := [14]) (by kernel_rfl) (by simp) ?_
            refine cons2 rfl rfl (fun K9 hK => ?_)
            go_simp
            have b4 : Hid _ := allocB w4 (.cells #[.string xk, .string xv] 61)
            have T4 : Hid _ := T3.out.below b4.out
            have E4 : Hid _ := heap_alloc_new w4 (.cells #[.string xk, .string xv] 61)
            have v4 : Hid _ := VC.out _ T4.out.pv
            refine hK.out _ _ ⟨T4.out.box.b4.a0, T4.out.box.b4.a1, T4.out.box.b4.a2, T4.out.box.b4.a3, v4.out⟩ (fun hX => ?_)
            clear hK K9 hHeld
            have hHeld := hX
            clear hX
            try simp only [Act.put, List.setIfInBounds_toArray, List.set_cons_zero, List.set_cons_succ]
            generalize w4.alloc (.cells #[.string xk, .string xv] 61) = w5 at *
            refine wpAnyH_ready (rs := [15]) (by kernel_rfl) (by simp) ?_
            refine cons2 rfl rfl (fun K9 hK => ?_)
            refine step_append_nt w5 (by rfl) (.tmp 38) (.tmp 48) 33 (by rfl) (.slice ra acc'.length rc) (.slice (some ⟨w4.heap.size, 0, none⟩) 1 1) (by rfl) (by rfl) _ (T4.out.col.more (xk, xv) (by have := AL.out; omega) w4.heap.size E4.out _) ?_
            rintro r w6 ⟨g, cap, rfl, O5, R5, L5⟩
            have PT5 : Hid _ := T4.out.col.put (acc' := acc' ++ [(xk, xv)]) R5 (by rw [List.length_append]) (by rw [List.length_append]; exact O5)
            have M : Hid _ := T4.out.more (acc' := acc' ++ [(xk, xv)]) HC.out hP HS.out HO.out HY.out R5 (by rw [List.length_append]) (by rw [List.length_append]; exact O5) L5
            have B6 : Hid (Bq w6 w.heap.size (.bool lf) (.slice ka kn kc) (.slice (some ⟨vb, vo, none⟩) vn vc) (.slice ia im ic)) := T4.out.box.kept (R5.block _ T4.out.box.lt (fun e => T4.out.ne e.symm))
            have VV6 : Hid (w6.cell? ⟨vb, vo + (j0 + i), none⟩ = some (.string xv)) := by
              have lt := World.block_lt_of_cell? _ _ v4.out
              refine (World.cell?_of_block (w := w5) (a := ⟨vb, vo + (j0 + i), none⟩) (R5.block vb lt (fun e => ?_))).trans v4.out
              exact VO.out vb rfl (by have := (T4.out.col.own.lt vb e.symm).1; omega)
            have c5 : w6.cell? ⟨C, 5, none⟩ = some (.slice ra acc'.length rc) := PT5.out.2.2.1
            have f5 : ∀ i, w6.frozen? ⟨C, i, none⟩ = false := PT5.out.2.2.2
            clear O5 R5 L5
            refine hK.out _ _ ⟨B6.out.b4.a0, B6.out.b4.a1, B6.out.b4.a2, B6.out.b4.a3, VV6.out⟩ (fun hX => ?_)
            clear hK K9 hHeld
            have hHeld := hX
            clear hX
            try simp only [Act.put, List.setIfInBounds_toArray, List.set_cons_zero, List.set_cons_succ]
            refine take2 rfl (i := 16) (v := (.pointer (some ⟨C, 0, none⟩))) (d := 50) rfl rfl (by kernel_rfl) (by kernel_rfl) (by kernel_rfl) (fun _ _ _ h => h) (Or.inl ⟨by rfl, ?_⟩) hHeld ?_
            · (intro W hW; (try dsimp only at hW); go_simp)
            try simp only [Act.put, List.setIfInBounds_toArray, List.set_cons_zero, List.set_cons_succ]
            refine take2 rfl (i := 17) (v := (.pointer (some ⟨C, 5, none⟩))) (d := 51) rfl rfl (by kernel_rfl) (by kernel_rfl) (by kernel_rfl) (fun _ _ _ h => h) (Or.inl ⟨by rfl, ?_⟩) hHeld ?_
            · (intro W hW; (try dsimp only at hW); go_simp)
            try simp only [Act.put, List.setIfInBounds_toArray, List.set_cons_zero, List.set_cons_succ]
            refine wpAnyH_ready (rs := [18]) (by kernel_rfl) (by simp) ?_
            refine cons2 rfl rfl (fun K9 hK => ?_)
            go_simp
            refine hK.out _ _ ⟨M.out.box.b4.a0, M.out.box.b4.a1, M.out.box.b4.a2, M.out.box.b4.a3, (VC.out _ M.out.pv)⟩ (fun hX => ?_)
            clear hK K9 hHeld hX c5 f5
            try simp only [Act.put, List.setIfInBounds_toArray, List.set_cons_zero, List.set_cons_succ]
            refine wpAnyH_done (by kernel_rfl) ?_ _
            rw [← CE.out] at M
            generalize w6.setCell ⟨C, 5, none⟩ (.slice (some ⟨g, 0, none⟩) (acc'.length + 1) cap) = w7 at *
            go_wp2
            go_roundg (kn - j0 - (i + 1))
            case measure => omega
            case rel => exact ⟨i + 1, _, by omega, rfl, by go_num, M.out⟩
          · go_simp
            have b4 : Hid _ := allocB w4 (.cells #[.string xk, .string xv] 61)
            have T4 : Hid _ := T3.out.below b4.out
            have E4 : Hid _ := heap_alloc_new w4 (.cells #[.string xk, .string xv] 61)
            have v4 : Hid _ := VC.out _ T4.out.pv
            refine hK.out _ _ ⟨T4.out.box.b4.a0, T4.out.box.b4.a1, T4.out.box.b4.a2, T4.out.box.b4.a3, v4.out⟩ (fun hX => ?_)
            clear hK K9 hHeld
            have hHeld := hX
            clear hX
            try simp only [Act.put, List.setIfInBounds_toArray, List.set_cons_zero, List.set_cons_succ]
            generalize w4.alloc (.cells #[.string xk, .string xv] 61) = w5 at *
            have c5 := T4.out.col.c5
            refine wpAnyH_ready (rs := [4]) (by kernel_rfl) (by simp) ?_
            refine cons2 rfl rfl (fun K9 hK => ?_)
            go_simp
            go_wp2_with fail
            refine hK.out _ _ ⟨T4.out.box.b4.a0, T4.out.box.b4.a1, T4.out.box.b4.a2, T4.out.box.b4.a3, v4.out⟩ (fun hX => ?_)
            clear hK K9 hHeld
            have hHeld := hX
            clear hX
            try simp only [Act.put, List.setIfInBounds_toArray, List.set_cons_zero, List.set_cons_succ]
            clear c5
            refine wpAnyH_ready (rs := [15]) (by kernel_rfl) (by simp) ?_
            refine cons2 rfl rfl (fun K9 hK => ?_)
            refine step_append_nt w5 (by rfl) (.tmp 38) (.tmp 48) 33 (by rfl) (.slice ra acc'.length rc) (.slice (some ⟨w4.heap.size, 0, none⟩) 1 1) (by rfl) (by rfl) _ (T4.out.col.more (xk, xv) (by have := AL.out; omega) w4.heap.size E4.out _) ?_
            rintro r w6 ⟨g, cap, rfl, O5, R5, L5⟩
            have PT5 : Hid _ := T4.out.col.put (acc' := acc' ++ [(xk, xv)]) R5 (by rw [List.length_append]) (by rw [List.length_append]; exact O5)
            have M : Hid _ := T4.out.more (acc' := acc' ++ [(xk, xv)]) HC.out hP HS.out HO.out HY.out R5 (by rw [List.length_append]) (by rw [List.length_append]; exact O5) L5
            have B6 : Hid (Bq w6 w.heap.size (.bool lf) (.slice ka kn kc) (.slice (some ⟨vb, vo, none⟩) vn vc) (.slice ia im ic)) := T4.out.box.kept (R5.block _ T4.out.box.lt (fun e => T4.out.ne e.symm))
            have VV6 : Hid (w6.cell? ⟨vb, vo + (j0 + i), none⟩ = some (.string xv)) := by
              have lt := World.block_lt_of_cell? _ _ v4.out
              refine (World.cell?_of_block (w := w5) (a := ⟨vb, vo + (j0 + i), none⟩) (R5.block vb lt (fun e => ?_))).trans v4.out
              exact VO.out vb rfl (by have := (T4.out.col.own.lt vb e.symm).1; omega)
            have c5 : w6.cell? ⟨C, 5, none⟩ = some (.slice ra acc'.length rc) := PT5.out.2.2.1
            have f5 : ∀ i, w6.frozen? ⟨C, i, none⟩ = false := PT5.out.2.2.2
            clear O5 R5 L5
            refine hK.out _ _ ⟨B6.out.b4.a0, B6.out.b4.a1, B6.out.b4.a2, B6.out.b4.a3, VV6.out⟩ (fun hX => ?_)
            clear hK K9 hHeld
            have hHeld := hX
            clear hX
            try simp only [Act.put, List.setIfInBounds_toArray, List.set_cons_zero, List.set_cons_succ]
            refine take2 rfl (i := 16) (v := (.pointer (some ⟨C, 0, none⟩))) (d := 50) rfl rfl (by kernel_rfl) (by kernel_rfl) (by kernel_rfl) (fun _ _ _ h => h) (Or.inl ⟨by rfl, ?_⟩) hHeld ?_
            · (intro W hW; (try dsimp only at hW); go_simp)
            try simp only [Act.put, List.setIfInBounds_toArray, List.set_cons_zero, List.set_cons_succ]
            refine take2 rfl (i := 17) (v := (.pointer (some ⟨C, 5, none⟩))) (d := 51) rfl rfl (by kernel_rfl) (by kernel_rfl) (by kernel_rfl) (fun _ _ _ h => h) (Or.inl ⟨by rfl, ?_⟩) hHeld ?_
            · (intro W hW; (try dsimp only at hW); go_simp)
            try simp only [Act.put, List.setIfInBounds_toArray, List.set_cons_zero, List.set_cons_succ]
            refine wpAnyH_ready (rs := [18]) (by kernel_rfl) (by simp) ?_
            refine cons2 rfl rfl (fun K9 hK => ?_)
            go_simp
            refine hK.out _ _ ⟨M.out.box.b4.a0, M.out.box.b4.a1, M.out.box.b4.a2, M.out.box.b4.a3, (VC.out _ M.out.pv)⟩ (fun hX => ?_)
            clear hK K9 hHeld hX c5 f5
            try simp only [Act.put, List.setIfInBounds_toArray, List.set_cons_zero, List.set_cons_succ]
            refine wpAnyH_done (by kernel_rfl) ?_ _
            rw [← CE.out] at M
            generalize w6.setCell ⟨C, 5, none⟩ (.slice (some ⟨g, 0, none⟩) (acc'.length + 1) cap) = w7 at *
            go_wp2
            go_roundg (kn - j0 - (i + 1))
            case measure => omega
            case rel => exact ⟨i + 1, _, by omega, rfl, by go_num, M.out⟩
    · obtain rfl : i = kn - j0 := by omega
      have ZE : Hid ((zipK p.keys p.vals).take (j0 + (kn - j0)) = zipK p.keys p.vals) := List.take_of_length_le (by rw [zipK_len EV.out]; omega)
      rw [ZE.out] at T
      clear SK SV
      go_wp2
      exact ⟨rfl, .tuple #[], by simp [results, Try.results70, go_sem], rfl, _, T.out.col, T.out.shf, T.out.fr, T.out.no⟩

end Go.Proofs.Ythdjghmipepppaa

