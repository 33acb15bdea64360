/- The law's shelf in memory: pages in a row, two numbers; what is kept while it changes. The law's shelf: an append that leaves no text in its row; sick, Page. -/
import Derived.Test.YthdjghmipepppaaMm
import Derived.Deep.AppendLies
import Derived.Deep.RegionLaw
namespace Go.Proofs.Ythdjghmipepppaa
open Go.RowKit
set_option linter.unusedVariables false
set_option linter.unusedSimpArgs false

/-- A block in which no text and no number (of 64 bits, no sign) but 0 lies. -/
def nt (u : Value) : Prop := (∀ s, u ≠ .string s) ∧ ∀ z, u = .int .u64 z → z = 0
def NT (w : World) (b : Nat) : Prop := ∀ i u, w.cell? ⟨b, i, none⟩ = some u → nt u
theorem nt_slice (a : Option Addr) (m c : Nat) : nt (.slice a m c) := ⟨fun s => by simp, fun z h => by cases h⟩
theorem nt_bool (b : Bool) : nt (.bool b) := ⟨fun s => by simp, fun z h => by cases h⟩
theorem nt_i64 (z : Int) : nt (.int .i64 z) := ⟨fun s => by simp, fun z h => by cases h⟩
theorem NT.kept {w w' : World} {b : Nat} (h : NT w b) (e : w'.heap[b]? = w.heap[b]?) : NT w' b := fun i u hu => h i u (by rw [← World.cell?_of_block (w := w) (w' := w') (a := ⟨b, i, none⟩) e]; exact hu)
/-- The world but for two blocks. -/
structure Gw (w w' : World) (P : Nat) (o : Option Nat) : Prop where
  os : w'.os = w.os
  tape : w'.tape = w.tape
  output : w'.output = w.output
  size : w.heap.size ≤ w'.heap.size
  block : ∀ k, k < w.heap.size → k ≠ P → some k ≠ o → w'.heap[k]? = w.heap[k]?
theorem Gw.of_below {w w' : World} (h : Below w.heap.size w w') (P : Nat) (o : Option Nat) : Gw w w' P o := ⟨h.os, h.tape, h.output, h.size, fun k hk _ _ => h.block k hk⟩
theorem Gw.trans {a b c : World} {P : Nat} {o o' : Option Nat} (h : Gw a b P o) (k : Gw b c P o') (ho : o' = o ∨ ∃ g, o' = some g ∧ a.heap.size ≤ g) : Gw a c P o := by
  refine ⟨k.os.trans h.os, k.tape.trans h.tape, k.output.trans h.output, Nat.le_trans h.size k.size, fun i hi h1 h2 => ?_⟩
  refine (k.block i (Nat.lt_of_lt_of_le hi h.size) h1 ?_).trans (h.block i hi h1 h2)
  rcases ho with rfl | ⟨g, rfl, hg⟩
  · exact h2
  · intro q
    have := Option.some.inj q
    omega
theorem Gw.any {w w' : World} {P : Nat} (h : Gw w w' P none) (o : Option Nat) : Gw w w' P o := ⟨h.os, h.tape, h.output, h.size, fun k hk h1 _ => h.block k hk h1 (by simp)⟩
theorem Gw.refl (w : World) (P : Nat) (o : Option Nat) : Gw w w P o := Gw.of_below (Below.refl _ _) P o
theorem Gw.drew {w w' : World} {P : Nat} {o : Option Nat} (h : Gw w w' P o) : Gw w w'.drew P o := ⟨h.os, h.tape, h.output, h.size, h.block⟩
/-- A row of texts or numbers lies in no such block. -/
theorem NT.offS {w : World} {b : Nat} (h : NT w b) {a : Option Addr} {n c : Nat} {ss : List ByteArray} (S : Sl w a n c (sv ss)) : 0 < n → ∀ x, a = some x → x.block ≠ b := by
  intro hn x hx e
  obtain ⟨b', o, rfl, _⟩ := S.at hn
  have := S.str (i := 0) hn
  simp at hx
  subst hx
  simp only at e
  subst e
  exact (h _ _ this).1 _ rfl
/-- Numbers above 0. -/
def Ps (ks : List Nat) : Prop := ∀ k ∈ ks, 0 < k
theorem NT.offK {w : World} {b : Nat} (h : NT w b) {a : Option Addr} {n c : Nat} {ks : List Nat} (S : Sl w a n c (kv ks)) (hp : Ps ks) : 0 < n → ∀ x, a = some x → x.block ≠ b := by
  intro hn x hx e
  have l := S.klen
  obtain ⟨b', o, rfl, _⟩ := S.at hn
  have := S.num (i := 0) hn
  simp at hx
  subst hx
  simp only at e
  subst e
  have z := (h _ _ this).2 _ rfl
  have q : 0 < ks.getD 0 0 := by
    have e : ks.getD 0 0 = ks[0]'(by omega) := by simp [List.getD, show 0 < ks.length by omega]
    rw [e]; exact hp _ (List.getElem_mem _)
  omega
theorem Sl.gwS {w w' : World} {P : Nat} {o : Option Nat} {a : Option Addr} {n c : Nat} {ss : List ByteArray} (S : Sl w a n c (sv ss)) (g : Gw w w' P o) (h1 : NT w P) (h2 : ∀ b, o = some b → NT w b) : Sl w' a n c (sv ss) :=
  S.kept fun hn x hx => g.block x.block (S.old hn x hx) (h1.offS S hn x hx) (fun e => (h2 x.block e.symm).offS S hn x hx rfl)
theorem Sl.gwK {w w' : World} {P : Nat} {o : Option Nat} {a : Option Addr} {n c : Nat} {ks : List Nat} (S : Sl w a n c (kv ks)) (hp : Ps ks) (g : Gw w w' P o) (h1 : NT w P) (h2 : ∀ b, o = some b → NT w b) : Sl w' a n c (kv ks) :=
  S.kept fun hn x hx => g.block x.block (S.old hn x hx) (h1.offK S hp hn x hx) (fun e => (h2 x.block e.symm).offK S hp hn x hx rfl)
theorem Pv.gw {w w' : World} {P : Nat} {o : Option Nat} {v : Value} {p : Pg} (h : Pv w v p) (hp : Ps p.kids) (g : Gw w w' P o) (h1 : NT w P) (h2 : ∀ b, o = some b → NT w b) : Pv w' v p := by
  obtain ⟨ka, kn, kc, va, vn, vc, ia, im, ic, e, k1, k2, k3⟩ := h.ex
  exact ⟨⟨ka, kn, kc, va, vn, vc, ia, im, ic, e, k1.gwS g h1 h2, k2.gwS g h1 h2, k3.gwK hp g h1 h2⟩, h.kid⟩

/-- A page's four cells. -/
structure V4 where
  lf : Bool
  ka : Option Addr
  kn : Nat
  kc : Nat
  va : Option Addr
  vn : Nat
  vc : Nat
  ia : Option Addr
  im : Nat
  ic : Nat
def V4.agg (x : V4) : Value := .agg #[.bool x.lf, .slice x.ka x.kn x.kc, .slice x.va x.vn x.vc, .slice x.ia x.im x.ic]
def V4.cs (x : V4) : List Value := [.bool x.lf, .slice x.ka x.kn x.kc, .slice x.va x.vn x.vc, .slice x.ia x.im x.ic]
def c4 (vs : List V4) : List Value := vs.flatMap V4.cs
theorem c4_len : ∀ vs : List V4, (c4 vs).length = vs.length * 4
  | [] => rfl
  | x :: vs => by
    have := c4_len vs
    unfold c4 at this ⊢
    simp only [List.flatMap_cons, List.length_append, List.length_cons, this]
    simp [V4.cs]
    omega
theorem c4_app (a b : List V4) : c4 (a ++ b) = c4 a ++ c4 b := by unfold c4; rw [List.flatMap_append]
theorem c4_at : ∀ (vs : List V4) (i j : Nat) (x : V4), vs[i]? = some x → j < 4 → (c4 vs)[i * 4 + j]? = x.cs[j]?
  | [], i, j, x, h, _ => by simp at h
  | y :: vs, 0, j, x, h, hj => by
    simp at h
    subst h
    unfold c4
    rw [List.flatMap_cons, Nat.zero_mul, Nat.zero_add, List.getElem?_append_left (by simp [V4.cs]; omega)]
  | y :: vs, i + 1, j, x, h, hj => by
    have := c4_at vs i j x (by simpa using h) hj
    unfold c4 at this ⊢
    rw [List.flatMap_cons, List.getElem?_append_right (by simp [V4.cs]; omega)]
    have e : (i + 1) * 4 + j - y.cs.length = i * 4 + j := by simp [V4.cs]; omega
    rw [e]
    exact this
theorem c4_nt (vs : List V4) : ∀ u ∈ c4 vs, nt u := by
  intro u hu
  unfold c4 at hu
  obtain ⟨x, _, hx⟩ := List.mem_flatMap.1 hu
  simp [V4.cs] at hx
  rcases hx with rfl | rfl | rfl | rfl
  · exact nt_bool _
  · exact nt_slice _ _ _
  · exact nt_slice _ _ _
  · exact nt_slice _ _ _
theorem Pv.v4 {w : World} {v : Value} {p : Pg} (h : Pv w v p) : ∃ x : V4, v = x.agg ∧ x.lf = p.leaf := by
  obtain ⟨ka, kn, kc, va, vn, vc, ia, im, ic, e, _⟩ := h.ex
  exact ⟨⟨p.leaf, ka, kn, kc, va, vn, vc, ia, im, ic⟩, e, rfl⟩

/-- The law's shelf. -/
structure Shf (w : World) (P : Nat) (sl : Value) (vs : List V4) (sh : List Pg) (ill n : Nat) : Prop where
  c0 : w.cell? ⟨P, 0, none⟩ = some sl
  c1 : w.cell? ⟨P, 1, none⟩ = some (.int .i64 (ill : Nat))
  c2 : w.cell? ⟨P, 2, none⟩ = some (.int .i64 (n : Nat))
  past : ∀ i, 3 ≤ i → w.cell? ⟨P, i, none⟩ = none
  fz : ∀ i, w.frozen? ⟨P, i, none⟩ = false
  own : w.ownsRow 0 54 4 sl vs.length (c4 vs)
  len : vs.length = sh.length
  pv : ∀ (i : Nat) (x : V4) (p : Pg), vs[i]? = some x → sh[i]? = some p → Pv w x.agg p
  kp : ∀ p ∈ sh, Ps p.kids
  ne : sl.ownBlock ≠ some P
  nt : ∀ g, sl.ownBlock = some g → NT w g
theorem Shf.sl {w : World} {P : Nat} {sl : Value} {vs : List V4} {sh : List Pg} {ill n : Nat} (h : Shf w P sl vs sh ill n) : ∃ a c, sl = .slice a vs.length c := by
  rcases h.own.2 with ⟨h0, h1⟩ | ⟨g, cap, cur, hv, _⟩
  · exact ⟨none, 0, by rw [h0, h1]⟩
  · exact ⟨_, _, hv⟩
theorem Shf.lt {w : World} {P : Nat} {sl : Value} {vs : List V4} {sh : List Pg} {ill n : Nat} (h : Shf w P sl vs sh ill n) : P < w.heap.size := World.block_lt_of_cell? _ _ h.c1
theorem Shf.ntP {w : World} {P : Nat} {sl : Value} {vs : List V4} {sh : List Pg} {ill n : Nat} (h : Shf w P sl vs sh ill n) : NT w P := by
  intro i u hu
  obtain ⟨a, c, e⟩ := h.sl
  have c0 := h.c0
  rw [e] at c0
  rcases Nat.lt_or_ge i 3 with q | q
  · have e : i = 0 ∨ i = 1 ∨ i = 2 := by omega
    rcases e with rfl | rfl | rfl
    · rw [c0] at hu; cases hu; exact nt_slice _ _ _
    · rw [h.c1] at hu; cases hu; exact nt_i64 _
    · rw [h.c2] at hu; cases hu; exact nt_i64 _
  · rw [h.past i q] at hu; cases hu
/-- What keeps the shelf: whatever leaves its two blocks and what pages hold. -/
theorem Shf.below {w w' : World} {P : Nat} {sl : Value} {vs : List V4} {sh : List Pg} {ill n : Nat} (h : Shf w P sl vs sh ill n) (b : Below w.heap.size w w') : Shf w' P sl vs sh ill n := by
  have k := b.block P h.lt
  have kc : ∀ i, w'.cell? ⟨P, i, none⟩ = w.cell? ⟨P, i, none⟩ := fun i => World.cell?_of_block (w := w) (a := ⟨P, i, none⟩) k
  refine ⟨(kc 0).trans h.c0, (kc 1).trans h.c1, (kc 2).trans h.c2, fun i hi => (kc i).trans (h.past i hi), frozen_kept h.fz k, ?_, h.len, fun i x p h1 h2 => (h.pv i x p h1 h2).below b, h.kp, h.ne, fun g hg => (h.nt g hg).kept (b.block g (h.own.lt g hg).2)⟩
  refine ⟨h.own.1, ?_⟩
  rcases h.own.2 with hn | ⟨g, cap, cur, hv, hb, hg, rest⟩
  · exact .inl hn
  · exact .inr ⟨g, cap, cur, hv, hb, by rw [b.block g (Array.getElem?_eq_some_iff.1 hg).1]; exact hg, rest⟩
/-- A block that is no part of it changes (and holds no text). -/
theorem Shf.far {w w' : World} {P B : Nat} {sl : Value} {vs : List V4} {sh : List Pg} {ill n : Nat} (h : Shf w P sl vs sh ill n) (g : w.grownBy w' (some B)) (h1 : B ≠ P) (h2 : sl.ownBlock ≠ some B) (h3 : NT w B) : Shf w' P sl vs sh ill n := by
  have k := g.block P h.lt (fun e => h1 (Option.some.inj e).symm)
  have kc : ∀ i, w'.cell? ⟨P, i, none⟩ = w.cell? ⟨P, i, none⟩ := fun i => World.cell?_of_block (w := w) (a := ⟨P, i, none⟩) k
  have G : Gw w w' B none := ⟨g.os, g.tape, g.output, g.size, fun i hi q _ => g.block i hi (fun e => q (Option.some.inj e))⟩
  refine ⟨(kc 0).trans h.c0, (kc 1).trans h.c1, (kc 2).trans h.c2, fun i hi => (kc i).trans (h.past i hi), frozen_kept h.fz k, h.own.kept g (Or.inr h2), h.len, fun i x p q1 q2 => (h.pv i x p q1 q2).gw (h.kp p (List.mem_of_getElem? q2)) G h3 (fun b hb => by cases hb), h.kp, h.ne, fun b hb => (h.nt b hb).kept (g.block b (h.own.lt b hb).2 (fun e => h2 (by rw [hb, e])))⟩
/-- A page of it. -/
theorem Shf.get {w : World} {P : Nat} {sl : Value} {vs : List V4} {sh : List Pg} {ill n k : Nat} {p : Pg} (h : Shf w P sl vs sh ill n) (hk : pgAt sh k = some p) :
    ∃ (g cap : Nat) (x : V4), 0 < k ∧ k ≤ vs.length ∧ x ∈ vs ∧ sl = .slice (some ⟨g, 0, none⟩) vs.length cap ∧ Pv w x.agg p ∧ vs.length ≤ maxLen ∧
      w.cell? ⟨g, (k - 1) * 4, none⟩ = some (.bool x.lf) ∧ w.cell? ⟨g, (k - 1) * 4 + 1, none⟩ = some (.slice x.ka x.kn x.kc) ∧ w.cell? ⟨g, (k - 1) * 4 + 2, none⟩ = some (.slice x.va x.vn x.vc) ∧ w.cell? ⟨g, (k - 1) * 4 + 3, none⟩ = some (.slice x.ia x.im x.ic) := by
  have k0 : 0 < k := by
    rcases Nat.eq_zero_or_pos k with q | q
    · rw [q] at hk; simp [pgAt] at hk
    · exact q
  have hk' : sh[k - 1]? = some p := by unfold pgAt at hk; rw [if_neg (by omega)] at hk; exact hk
  have kl := lt_of_some hk'
  have hl := h.len
  obtain ⟨x, hx⟩ : ∃ x, vs[k - 1]? = some x := ⟨_, List.getElem?_eq_getElem (by omega)⟩
  rcases h.own.2 with ⟨_, h0⟩ | ⟨g, cap, cur, hv, hb, hg, hn, hm, hs, ht⟩
  · omega
  · have cell : ∀ j u, j < 4 → x.cs[j]? = some u → w.cell? ⟨g, (k - 1) * 4 + j, none⟩ = some u := fun j u hj hu => by
      have e := c4_at vs (k - 1) j x hx hj
      rw [hu] at e
      have il : (k - 1) * 4 + j < vs.length * 4 := by omega
      rw [← ht, List.getElem?_take_of_lt il, Array.getElem?_toList] at e
      simp [World.cell?, hg, e]
    exact ⟨g, cap, x, k0, by omega, List.mem_of_getElem? hx, hv, h.pv _ x p hx hk', by omega, cell 0 _ (by omega) rfl, cell 1 _ (by omega) rfl, cell 2 _ (by omega) rfl, cell 3 _ (by omega) rfl⟩
/-- One call more. -/
theorem Shf.tick {w : World} {P : Nat} {sl : Value} {vs : List V4} {sh : List Pg} {ill n : Nat} (h : Shf w P sl vs sh ill n) : Shf (w.setCell ⟨P, 2, none⟩ (.int .i64 ((n + 1 : Nat) : Int))) P sl vs sh ill (n + 1) ∧ Gw w (w.setCell ⟨P, 2, none⟩ (.int .i64 ((n + 1 : Nat) : Int))) P none := by
  have g := grownBy_setCell w P 2 (.int .i64 ((n + 1 : Nat) : Int))
  have G : Gw w (w.setCell ⟨P, 2, none⟩ (.int .i64 ((n + 1 : Nat) : Int))) P none := ⟨g.os, g.tape, g.output, g.size, fun i hi q _ => g.block i hi (fun e => q (Option.some.inj e))⟩
  have ne : ∀ i : Nat, i ≠ 2 → (⟨P, 2, none⟩ : Addr) ≠ ⟨P, i, none⟩ := fun i h k => by injection k with _ k; exact h k.symm
  refine ⟨⟨?_, ?_, World.cell?_setCell_same _ _ _ h.c2, fun i hi => ?_, fun i => by simp [h.fz], h.own.kept g (Or.inr h.ne), h.len, fun i x p q1 q2 => (h.pv i x p q1 q2).gw (h.kp p (List.mem_of_getElem? q2)) G h.ntP (fun b hb => by cases hb), h.kp, h.ne, fun b hb => (h.nt b hb).kept (g.block b (h.own.lt b hb).2 (fun e => h.ne (by rw [hb, e])))⟩, G⟩
  · rw [World.cell?_setCell_other _ _ _ _ (ne 0 (by decide))]; exact h.c0
  · rw [World.cell?_setCell_other _ _ _ _ (ne 1 (by decide))]; exact h.c1
  · rw [World.cell?_setCell_other _ _ _ _ (ne i (by omega))]; exact h.past i hi
/-- Four cells in a block of their own. -/
structure Bq (w : World) (A : Nat) (c0 c1 c2 c3 : Value) : Prop where
  b4 : B4 w A c0 c1 c2 c3
  past : ∀ i, 4 ≤ i → w.cell? ⟨A, i, none⟩ = none
  fz : ∀ i, w.frozen? ⟨A, i, none⟩ = false
theorem Bq.new (w : World) (c0 c1 c2 c3 : Value) (t : TypeId) : Bq (w.alloc (.cells #[c0, c1, c2, c3] t)) w.heap.size c0 c1 c2 c3 :=
  ⟨B4.new w _ _ _ _ t, fun i hi => by simp; omega, fun i => World.frozen?_alloc_new _ _ _ i⟩
theorem Bq.lt {w : World} {A : Nat} {c0 c1 c2 c3 : Value} (h : Bq w A c0 c1 c2 c3) : A < w.heap.size := h.b4.lt
theorem Bq.kept {w w' : World} {A : Nat} {c0 c1 c2 c3 : Value} (h : Bq w A c0 c1 c2 c3) (k : w'.heap[A]? = w.heap[A]?) : Bq w' A c0 c1 c2 c3 :=
  ⟨h.b4.kept k, fun i hi => (World.cell?_of_block (w := w) (a := ⟨A, i, none⟩) k).trans (h.past i hi), frozen_kept h.fz k⟩
theorem Bq.below {w w' : World} {A : Nat} {c0 c1 c2 c3 : Value} (h : Bq w A c0 c1 c2 c3) (b : Below w.heap.size w w') : Bq w' A c0 c1 c2 c3 := h.kept (b.block A h.lt)
theorem Bq.gw {w w' : World} {A P : Nat} {o : Option Nat} {c0 c1 c2 c3 : Value} (h : Bq w A c0 c1 c2 c3) (g : Gw w w' P o) (h1 : A ≠ P) (h2 : some A ≠ o) : Bq w' A c0 c1 c2 c3 := h.kept (g.block A h.lt h1 h2)
theorem Bq.nt {w : World} {A : Nat} {c0 c1 c2 c3 : Value} (h : Bq w A c0 c1 c2 c3) (n0 : nt c0) (n1 : nt c1) (n2 : nt c2) (n3 : nt c3) : NT w A := by
  intro i u hu
  rcases Nat.lt_or_ge i 4 with q | q
  · have e : i = 0 ∨ i = 1 ∨ i = 2 ∨ i = 3 := by omega
    rcases e with rfl | rfl | rfl | rfl
    · rw [h.b4.a0] at hu; cases hu; exact n0
    · rw [h.b4.a1] at hu; cases hu; exact n1
    · rw [h.b4.a2] at hu; cases hu; exact n2
    · rw [h.b4.a3] at hu; cases hu; exact n3
  · rw [h.past i q] at hu; cases hu
theorem Bq.put {w : World} {A : Nat} {c0 c1 c2 c3 : Value} (h : Bq w A c0 c1 c2 c3) (v0 v1 v2 v3 : Value) : Bq (st4 w A v0 v1 v2 v3) A v0 v1 v2 v3 ∧ w.grownBy (st4 w A v0 v1 v2 v3) (some A) := by
  obtain ⟨s1, s2⟩ := stored4 h.b4 v0 v1 v2 v3
  refine ⟨⟨s1, fun i hi => ?_, fun i => by unfold st4; simp [h.fz]⟩, s2⟩
  have ne : ∀ j, j < 4 → (⟨A, j, none⟩ : Addr) ≠ ⟨A, i, none⟩ := fun j hj k => by injection k with _ k; omega
  unfold st4
  rw [World.cell?_setCell_other _ _ _ _ (ne 3 (by omega)), World.cell?_setCell_other _ _ _ _ (ne 2 (by omega)), World.cell?_setCell_other _ _ _ _ (ne 1 (by omega)), World.cell?_setCell_other _ _ _ _ (ne 0 (by omega))]
  exact h.past i hi
theorem Gw.of_grown {w w' : World} {A : Nat} (g : w.grownBy w' (some A)) : Gw w w' A none := ⟨g.os, g.tape, g.output, g.size, fun i hi q _ => g.block i hi (fun e => q (Option.some.inj e))⟩
/-- A store into what is newer. -/
theorem Gw.store {a b c : World} {P A : Nat} {o : Option Nat} (h : Gw a b P o) (g : b.grownBy c (some A)) (hA : a.heap.size ≤ A) : Gw a c P o :=
  ⟨g.os.trans h.os, g.tape.trans h.tape, g.output.trans h.output, Nat.le_trans h.size g.size, fun i hi h1 h2 => (g.block i (Nat.lt_of_lt_of_le hi h.size) (fun e => by have := Option.some.inj e; omega)).trans (h.block i hi h1 h2)⟩
theorem Gw.next {a b c : World} {P : Nat} {o : Option Nat} (h : Gw a b P o) (g : Below b.heap.size b c) : Gw a c P o := h.trans (Gw.of_below g P o) (Or.inl rfl)
theorem Gw.ahead {a b c : World} {P : Nat} {o : Option Nat} (h : Below a.heap.size a b) (g : Gw b c P o) : Gw a c P o := (Gw.of_below h P o).trans g (Or.inl rfl)
theorem Shf.newer {w : World} {P : Nat} {sl : Value} {vs : List V4} {sh : List Pg} {ill n : Nat} (h : Shf w P sl vs sh ill n) : ∀ A, w.heap.size ≤ A → sl.ownBlock ≠ some A := fun A hA e => by
  have := (h.own.lt A e).2
  omega
theorem pgAt_mem {sh : List Pg} {k : Nat} {p : Pg} (h : pgAt sh k = some p) : p ∈ sh := by
  unfold pgAt at h
  by_cases c : k = 0
  · rw [if_pos c] at h; cases h
  · rw [if_neg c] at h; exact List.mem_of_getElem? h
/-- No page of a shelf lies in a block. -/
def OffV (vs : List V4) (B : Nat) : Prop := ∀ x ∈ vs, Off x.agg B
theorem off_of_nt {w : World} {v : Value} {p : Pg} {B : Nat} (h : Pv w v p) (hp : Ps p.kids) (n : NT w B) : Off v B := by
  obtain ⟨ka, kn, kc, va, vn, vc, ia, im, ic, e, h1, h2, h3⟩ := h.ex
  intro l a1 m1 c1 a2 m2 c2 a3 m3 c3 e'
  rw [e] at e'
  simp at e'
  obtain ⟨_, ⟨rfl, rfl, rfl⟩, ⟨rfl, rfl, rfl⟩, rfl, rfl, rfl⟩ := e'
  exact ⟨fun x hn hx => n.offS h1 hn x hx, fun x hn hx => n.offS h2 hn x hx, fun x hn hx => n.offK h3 hp hn x hx⟩
theorem Shf.mem {w : World} {P : Nat} {sl : Value} {vs : List V4} {sh : List Pg} {ill n : Nat} (h : Shf w P sl vs sh ill n) {x : V4} (hx : x ∈ vs) : ∃ p ∈ sh, Pv w x.agg p := by
  obtain ⟨i, hi, rfl⟩ := List.mem_iff_getElem.1 hx
  have l := h.len
  have hs : sh[i]? = some (sh[i]'(by omega)) := List.getElem?_eq_getElem (by omega)
  exact ⟨_, List.mem_of_getElem? hs, h.pv i _ _ (List.getElem?_eq_getElem hi) hs⟩
theorem Shf.offV {w : World} {P B : Nat} {sl : Value} {vs : List V4} {sh : List Pg} {ill n : Nat} (h : Shf w P sl vs sh ill n) (k : NT w B) : OffV vs B := fun x hx => by
  obtain ⟨p, hp, pv⟩ := h.mem hx
  exact off_of_nt pv (h.kp p hp) k
theorem Shf.offNew {w : World} {P B : Nat} {sl : Value} {vs : List V4} {sh : List Pg} {ill n : Nat} (h : Shf w P sl vs sh ill n) (k : w.heap.size ≤ B) : OffV vs B := fun x hx => by
  obtain ⟨p, hp, pv⟩ := h.mem hx
  exact pv.off B k
theorem Shf.far' {w w' : World} {P B : Nat} {sl : Value} {vs : List V4} {sh : List Pg} {ill n : Nat} (h : Shf w P sl vs sh ill n) (g : w.grownBy w' (some B)) (h1 : B ≠ P) (h2 : sl.ownBlock ≠ some B) (h3 : OffV vs B) : Shf w' P sl vs sh ill n := by
  have k := g.block P h.lt (fun e => h1 (Option.some.inj e).symm)
  have kc : ∀ i, w'.cell? ⟨P, i, none⟩ = w.cell? ⟨P, i, none⟩ := fun i => World.cell?_of_block (w := w) (a := ⟨P, i, none⟩) k
  refine ⟨(kc 0).trans h.c0, (kc 1).trans h.c1, (kc 2).trans h.c2, fun i hi => (kc i).trans (h.past i hi), frozen_kept h.fz k, h.own.kept g (Or.inr h2), h.len, fun i x p q1 q2 => (h.pv i x p q1 q2).out g (h3 x (List.mem_of_getElem? q1)), h.kp, h.ne, fun b hb => (h.nt b hb).kept (g.block b (h.own.lt b hb).2 (fun e => h2 (by rw [hb, e])))⟩

end Go.Proofs.Ythdjghmipepppaa

namespace Go.Proofs.Ythdjghmipepppaa
open Go.RowKit
set_option linter.unusedVariables false
set_option linter.unusedSimpArgs false

theorem zeroCells_nt {z : Array Value} (h : ∀ u ∈ z.toList, nt u) (n : Nat) : ∀ u ∈ (Builtin.zeroCells z n).toList, nt u := by
  intro u hu
  unfold Builtin.zeroCells at hu
  simp only [Array.toList_map, List.mem_map] at hu
  obtain ⟨a, ha, rfl⟩ := hu
  rcases Nat.eq_zero_or_pos z.size with q | q
  · simp [q] at ha
  · have l : a % z.size < z.size := Nat.mod_lt _ q
    rw [getElem!_pos z _ l]
    exact h _ (by simp)
/-- An append onto a row of one's own in which no text lies: none lies in the new one. -/
theorem run_append_nt {P : Program} (w : World) (t ty : TypeId) (base : Nat) (e : TypeId) (i : TypeInfo) (z : Value) (size bytes : Nat) (ht : P.underlying t = some (.slice e)) (hi : P.info? e = some i) (hz : i.zero = some z)
    (hsize : i.size = size) (hby : i.bytes = bytes) (hzs : z.cells.size = size) (hsz : 0 < size) (v : Value) (n : Nat) (xs : List Value) (hown : w.ownsRow base e size v n xs)
    (ad : Addr) (m c : Nat) (news : List Value) (hl : news.length = m * size) (hnews : ∀ j u, news[j]? = some u → w.cell? (ad.add j) = some u) (h1 : ∀ u ∈ news, u.oneCell' = true)
    (hm : 0 < m) (h63 : n + m ≤ maxLen) (hbytes : (n + m) * bytes ≤ 140737488355328) (hbase : base ≤ w.heap.size) (hzn : ∀ u ∈ z.cells.toList, nt u) (hvn : ∀ g, v.ownBlock = some g → NT w g) (hnn : ∀ u ∈ news, nt u) :
    ∃ g cap w', (Builtin.append_ #[t, t] ty #[v, .slice (some ad) m c]).run P w = .ok (.slice (some ⟨g, 0, none⟩) (n + m) cap) w' ∧
      w'.ownsRow base e size (.slice (some ⟨g, 0, none⟩) (n + m) cap) (n + m) (xs ++ news) ∧ w.grownBy w' v.ownBlock ∧ (v.ownBlock = some g ∨ g = w.heap.size) ∧ NT w' g := by
  subst hsize
  subst hby
  obtain ⟨g, cap, w', hr, h2, h3, h4, h5⟩ := run_append_lies (P := P) w t ty base e i z i.size i.bytes ht hi hz rfl rfl hzs hsz v n xs hown ad m c news hl hnews h1 hm h63 hbytes hbase _ rfl
  refine ⟨g, cap, w', hr, h2, h3, h4, ?_⟩
  have fresh : ∀ cs : Array Value, (∀ u ∈ cs.toList, nt u) → ∀ W : World, NT (W.alloc (.cells cs e)) W.heap.size := fun cs hc W j u hu => by
    rw [cell_of_row _ _ _ _ _ _ (heap_alloc_new W _)] at hu
    exact hc u (by rw [← Array.getElem?_toList] at hu; exact List.mem_of_getElem? hu)
  have n63 : ((n + m : Nat) : Int) ≤ 9223372036854775807 := by simp only [maxLen] at h63; omega
  rcases hown.2 with ⟨rfl, rfl⟩ | ⟨b, cp, cur, rfl, hbg, hg, hnc, hcm, hcs, htake⟩
  · have q := run_append_nil (P := P) w t ty e i z ht hi hz ad m c news hl hnews hm (by omega) (by have hb := hbytes; simp only [Nat.zero_add] at hb; omega)
    rw [q] at hr
    injection hr with a1 a2
    injection a1 with a3
    have eg : w.heap.size = g := by injection a3 with a4; injection a4
    rw [← a2, ← eg]
    refine fresh _ (fun u hu => ?_) w.drew
    rw [Array.toList_append, List.mem_append] at hu
    rcases hu with hu | hu
    · exact hnn u (by simpa using hu)
    · exact zeroCells_nt hzn _ u hu
  · have cn : ∀ u ∈ cur.toList, nt u := fun u hu => by
      obtain ⟨j, hj, rfl⟩ := List.mem_iff_getElem.1 hu
      exact hvn b rfl j _ (by rw [cell_of_row w b j cur e (0, 0) hg, ← Array.getElem?_toList]; exact List.getElem?_eq_getElem hj)
    by_cases hroom : n + m ≤ cp
    · have hfit : n * i.size + news.length ≤ cur.size := by rw [hl, hcs, ← Nat.add_mul]; exact Nat.mul_le_mul_right _ hroom
      have q := run_append_room (P := P) w t ty e i ht hi b n cp cur hg ad m c news hl hnews h1 hroom hfit
      rw [q] at hr
      injection hr with a1 a2
      injection a1 with a3
      have eg : b = g := by injection a3 with a4; injection a4
      subst eg
      rw [← a2]
      intro j u hu
      rw [cell_setRow_same w b j cur _ e (0, 0) hg, ← Array.getElem?_toList] at hu
      have hu := List.mem_of_getElem? hu
      simp only [List.mem_append] at hu
      rcases hu with (hu | hu) | hu
      · exact cn u (List.mem_of_mem_take hu)
      · exact hnn u hu
      · exact cn u (List.mem_of_mem_drop hu)
    · have holds : ∀ j u, xs[j]? = some u → w.cell? ((⟨b, 0, none⟩ : Addr).add j) = some u := hown.cells (g := b) rfl
      have q := run_append_grow (P := P) w t ty e i z ht hi hz ⟨b, 0, none⟩ n cp xs hown.1 holds ad m c news hl hnews (by omega) n63 (growslice_fits (by omega) hbytes)
      rw [q] at hr
      injection hr with a1 a2
      injection a1 with a3
      have eg : w.heap.size = g := by injection a3 with a4; injection a4
      rw [← a2, ← eg]
      refine fresh _ (fun u hu => ?_) w.drew
      rw [Array.toList_append, Array.toList_append, List.mem_append, List.mem_append] at hu
      rcases hu with (hu | hu) | hu
      · exact cn u (by rw [← htake] at hu; exact List.mem_of_mem_take (by simpa using hu))
      · exact hnn u (by simpa using hu)
      · exact zeroCells_nt hzn _ u hu
theorem wp_append_nt {P : Program} (w : World) {o : Oper} {a : Act} {K : Act → World → Prop} {Q : Exit → Act → World → Prop} (s x : Operand) (t : TypeId)
    (ho : o.op = .call { callee := .builtin .append, args := #[s, x], argTypes := #[t, t] }) (v xv : Value) (hs : a.eval s = v) (hx : a.eval x = xv)
    (L : Value → World → Prop) (hL : ∃ r w', (Builtin.append_ #[t, t] o.type #[v, xv]).run P w = .ok r w' ∧ L r w') (h : ∀ r w', L r w' → K (a.put o.dst r) w') : o.wp P a w K Q := by
  obtain ⟨r, w', hr, h2⟩ := hL
  unfold Oper.wp execOp
  simp only [ho, resolve, invoke, builtin, Sem.run_bind, Sem.run_pure, Result.andThen_ok, List.map_toArray, List.map_cons, List.map_nil, hs, hx, hr]
  exact h r w' h2
theorem wpList_append_nt {P : Program} (w : World) {ops : Array Oper} {rest : List Oper} {o : Oper} {a : Act} {Q : Exit → Act → World → Prop} (hgd : o.guard = none) (s x : Operand) (t : TypeId)
    (ho : o.op = .call { callee := .builtin .append, args := #[s, x], argTypes := #[t, t] }) (v xv : Value) (hs : a.eval s = v) (hx : a.eval x = xv)
    (L : Value → World → Prop) (hL : ∃ r w', (Builtin.append_ #[t, t] o.type #[v, xv]).run P w = .ok r w' ∧ L r w') (h : ∀ r w', L r w' → wpList P ops Q rest (a.put o.dst r) w') : wpList P ops Q (o :: rest) a w :=
  wpList_plain hgd fun _ hK => wp_append_nt w s x t ho v xv hs hx L hL fun r w' h2 => hK _ _ (h r w' h2)
theorem step_append_nt {P : Program} (w : World) {ops : Array Oper} {o : Oper} {a : Act} {K : Act → World → Prop} {Q : Exit → Act → World → Prop} {E : Prop} (hgd : o.guard = none) (s x : Operand) (t : TypeId)
    (ho : o.op = .call { callee := .builtin .append, args := #[s, x], argTypes := #[t, t] }) (v xv : Value) (hs : a.eval s = v) (hx : a.eval x = xv)
    (L : Value → World → Prop) (hL : ∃ r w', (Builtin.append_ #[t, t] o.type #[v, xv]).run P w = .ok r w' ∧ L r w') (h : ∀ r w', L r w' → K (a.put o.dst r) w') :
    if Region.wanted o (yielded ops a.tmps) = true then Oper.wp P o a w K Q else E := by
  have hw : Region.wanted o (yielded ops a.tmps) = true := by simp [Region.wanted, hgd]
  rw [if_pos hw]
  exact wp_append_nt w s x t ho v xv hs hx L hL h

/-- What the n-th call answers. -/
theorem sick_any (P : Nat) (sl : Value) (vs : List V4) (sh : List Pg) (ill n : Nat) (w : World) (h : Shf w P sl vs sh ill n) (hn : n ≤ 1000000000) (hi : ill ≤ 1000000000) (b : Bool) (hb : decide (n + 1 = ill) = b) :
    Calls Try.prog 56 #[.pointer (some ⟨P, 0, none⟩)] w fun e w' => e = .returned (.bool b) ∧ Shf w' P sl vs sh ill (n + 1) ∧ Gw w w' P none := by
  have T : Hid _ := h.tick
  have c1 := T.out.1.c1
  have c2 := T.out.1.c2
  have d2 := h.c2
  have f2 := h.fz 2
  have e1 : ((n + 1 : Nat) : Int) = (n : Int) + 1 := by omega
  rw [e1] at T c1 c2
  have B0 : decide ((n : Int) + 1 = (ill : Int)) = b := by rw [← hb]; exact decide_eq_decide.2 (by omega)
  have B : Hid _ := B0
  clear B0
  have n1 : (n : Int) ≤ 1000000000 := by omega
  clear h hb hi e1
  go_enter Try.func56, Try.ntmps56
  go_wp2
  generalize w.setCell ⟨P, 2, none⟩ (.int .i64 ((n : Int) + 1)) = w1 at *
  go_quiet (fail)
  have T2 : Hid _ := And.intro (T.out.1.below (drewB w1 nq)) (T.out.2.trans (Gw.of_below (drewB w1 nq) P none) (Or.inl rfl))
  generalize w1.drewN nq = w2 at *
  go_wp2
  go_ret
  exact ⟨retV (by show Value.bool ((n : Int) + 1 == (ill : Int)) = .bool b; rw [show ((n : Int) + 1 == (ill : Int)) = decide ((n : Int) + 1 = (ill : Int)) from rfl, B.out]), T2.out⟩
/-- The zero Page, as a value. -/
def zeroV : Value := .agg #[.bool false, .slice none 0 0, .slice none 0 0, .slice none 0 0]
/-- A number's page. -/
theorem sPage_ok (P : Nat) (sl : Value) (vs : List V4) (sh : List Pg) (ill n k : Nat) (p : Pg) (w : World) (h : Shf w P sl vs sh ill n) (hn : n ≤ 900000000) (hi : ill ≤ 1000000000) (hs : n + 1 ≠ ill) (hk : pgAt sh k = some p) (hl : sh.length ≤ 9223372036854775807) :
    Calls Try.prog 26 #[.pointer (some ⟨P, 0, none⟩), .int .u64 (k : Nat)] w fun e w' => ∃ x : V4, e = .returned (.tuple #[x.agg, .int .i64 0]) ∧ x ∈ vs ∧ Pv w' x.agg p ∧ Shf w' P sl vs sh ill (n + 1) ∧ Gw w w' P none := by
  have K : Hid _ := fun W (b : Below w.heap.size w W) => sick_any P sl vs sh ill n W (h.below b) (by omega) hi false (decide_eq_false hs)
  have l0 := h.len
  obtain ⟨k0, k1⟩ : 0 < k ∧ k ≤ vs.length := by
    obtain ⟨_, _, _, k0, k1, _⟩ := h.get hk
    exact ⟨k0, k1⟩
  have n1 : (1 : Int) ≤ (k : Int) := by omega
  have n2 : (k : Int) ≤ 9223372036854775807 := by omega
  have n3 : vs.length ≤ 9223372036854775807 := by omega
  have n4 : (k : Int) ≤ (vs.length : Int) := by omega
  have lt := h.lt
  have ob : Hid _ := h.newer
  have kp : Hid (Ps p.kids) := h.kp p (pgAt_mem hk)
  clear hs hi hl l0
  go_enter Try.func26, Try.ntmps26
  go_upto_region 1 with fail
  have b0 : Hid _ := allocB w (.cells #[.bool false, .slice none 0 0, .slice none 0 0, .slice none 0 0] 54)
  have B0 : Hid _ := Bq.new w (.bool false) (.slice none 0 0) (.slice none 0 0) (.slice none 0 0) 54
  have g0 : w.heap.size ≠ P := by omega
  generalize w.alloc (.cells #[.bool false, .slice none 0 0, .slice none 0 0, .slice none 0 0] 54) = w0 at *
  go_wp2_with fail
  refine Calls.mono (K.out w0 b0.out) ?_
  rintro e w1 ⟨rfl, S1, G1'⟩
  have G1 : Hid _ := G1'
  have B1 : Hid _ := B0.out.gw G1' g0 (by simp)
  obtain ⟨g, cap, x, _, _, hm', esl, pv', _, a0, a1, a2, a3⟩ := S1.get hk
  have hm : Hid _ := hm'
  clear hm'
  have S2 : Hid _ := S1
  have pv : Hid _ := pv'
  subst esl
  have c0 := S1.c0
  obtain ⟨r0, r1, r2, r3⟩ := B1.out.b4
  have rz := B1.out.fz
  clear S1 G1' K B0 pv'
  obtain ⟨lf, ka, kn, kc, va, vn, vc, ia, im, ic⟩ := x
  simp only at a0 a1 a2 a3
  have nb : NT w1 w.heap.size := B1.out.nt (nt_bool _) (nt_slice _ _ _) (nt_slice _ _ _) (nt_slice _ _ _)
  have X : Hid _ := B1.out.put (.bool lf) (.slice ka kn kc) (.slice va vn vc) (.slice ia im ic)
  have Y : Hid _ := And.intro (pv.out.gw kp.out (Gw.of_grown X.out.2) nb (fun b hb => by cases hb)) (And.intro (S2.out.far X.out.2 g0 (ob.out _ (Nat.le_refl _)) nb) ((Gw.ahead b0.out G1.out).store X.out.2 (Nat.le_refl _)))
  clear nb
  unfold st4 at X Y
  go_wp2
  generalize (((w1.setCell ⟨w.heap.size, 0, none⟩ (.bool lf)).setCell ⟨w.heap.size, 1, none⟩ (.slice ka kn kc)).setCell ⟨w.heap.size, 2, none⟩ (.slice va vn vc)).setCell ⟨w.heap.size, 3, none⟩ (.slice ia im ic) = w2 at *
  obtain ⟨t0, t1, t2, t3⟩ := X.out.1.b4
  exact bodyPost_ret (v := .tuple #[.agg #[.bool lf, .slice ka kn kc, .slice va vn vc, .slice ia im ic], .int .i64 0]) (by simp [results, Try.results26, go_sem, t0, t1, t2, t3]) rfl ⟨⟨lf, ka, kn, kc, va, vn, vc, ia, im, ic⟩, rfl, hm.out, Y.out.1, Y.out.2.1, Y.out.2.2⟩
/-- The call that fails. -/
theorem sPage_ill (P : Nat) (sl : Value) (vs : List V4) (sh : List Pg) (ill n k : Nat) (w : World) (h : Shf w P sl vs sh ill n) (hn : n ≤ 900000000) (hs : n + 1 = ill) :
    Calls Try.prog 26 #[.pointer (some ⟨P, 0, none⟩), .int .u64 (k : Nat)] w fun e w' => e = .returned (.tuple #[zeroV, .int .i64 4]) ∧ Shf w' P sl vs sh ill (n + 1) ∧ Gw w w' P none := by
  have K : Hid _ := fun W (b : Below w.heap.size w W) => sick_any P sl vs sh ill n W (h.below b) (by omega) (by omega) true (decide_eq_true hs)
  have lt := h.lt
  have ob : Hid _ := h.newer
  clear hs
  go_enter Try.func26, Try.ntmps26
  go_upto_region 1 with fail
  have b0 : Hid _ := allocB w (.cells #[.bool false, .slice none 0 0, .slice none 0 0, .slice none 0 0] 54)
  have B0 : Hid _ := Bq.new w (.bool false) (.slice none 0 0) (.slice none 0 0) (.slice none 0 0) 54
  have g0 : w.heap.size ≠ P := by omega
  generalize w.alloc (.cells #[.bool false, .slice none 0 0, .slice none 0 0, .slice none 0 0] 54) = w0 at *
  go_wp2_with fail
  refine Calls.mono (K.out w0 b0.out) ?_
  rintro e w1 ⟨rfl, S1, G1'⟩
  have G1 : Hid _ := G1'
  have B1 : Hid _ := B0.out.gw G1' g0 (by simp)
  have S2 : Hid _ := S1
  obtain ⟨r0, r1, r2, r3⟩ := B1.out.b4
  have rz := B1.out.fz
  clear S1 G1' K B0
  have nb : NT w1 w.heap.size := B1.out.nt (nt_bool _) (nt_slice _ _ _) (nt_slice _ _ _) (nt_slice _ _ _)
  have X : Hid _ := B1.out.put (.bool false) (.slice none 0 0) (.slice none 0 0) (.slice none 0 0)
  have Y : Hid _ := And.intro (S2.out.far X.out.2 g0 (ob.out _ (Nat.le_refl _)) nb) ((Gw.ahead b0.out G1.out).store X.out.2 (Nat.le_refl _))
  clear nb
  unfold st4 at X Y
  go_wp2
  generalize (((w1.setCell ⟨w.heap.size, 0, none⟩ (.bool false)).setCell ⟨w.heap.size, 1, none⟩ (.slice none 0 0)).setCell ⟨w.heap.size, 2, none⟩ (.slice none 0 0)).setCell ⟨w.heap.size, 3, none⟩ (.slice none 0 0) = w2 at *
  obtain ⟨t0, t1, t2, t3⟩ := X.out.1.b4
  exact bodyPost_ret (v := .tuple #[.agg #[.bool false, .slice none 0 0, .slice none 0 0, .slice none 0 0], .int .i64 4]) (by simp [results, Try.results26, go_sem, t0, t1, t2, t3]) rfl ⟨rfl, Y.out.1, Y.out.2⟩

end Go.Proofs.Ythdjghmipepppaa

