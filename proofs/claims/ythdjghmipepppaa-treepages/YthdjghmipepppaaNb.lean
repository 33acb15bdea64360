/- Pages told one by one: what stays. A reader visits pages (uPages1). A reader visits pages (uDeep1). -/
import Derived.Test.YthdjghmipepppaaNa
namespace Go.Proofs.Ythdjghmipepppaa
open Go.RowKit Go.Shelf
set_option linter.unusedVariables false
set_option linter.unusedSimpArgs false

/-- A tree's pages, each with its level, ahead of its kids. -/
def pagesL : Nat → Nat → List Pg → Nat → List (Nat × Nat)
  | 0, _, _, _ => []
  | r + 1, lv, sh, n => match pgAt sh n with
    | none => []
    | some p => (n, lv) :: p.kids.flatMap (pagesL r (lv + 1) sh)
theorem pagesL_at {sh : List Pg} {n : Nat} {p : Pg} (h : pgAt sh n = some p) (r lv : Nat) : pagesL (r + 1) lv sh n = (n, lv) :: p.kids.flatMap (pagesL r (lv + 1) sh) := by simp only [pagesL, h]
theorem flat_next {α : Type} {l : List Nat} {f : Nat → List α} {i : Nat} (h : i < l.length) : (l.take (i + 1)).flatMap f = (l.take i).flatMap f ++ f (l.getD i 0) := by
  rw [List.take_add_one, List.getElem?_eq_getElem h, Option.toList_some, List.flatMap_append]
  simp [List.getD, List.getElem?_eq_getElem h]
theorem flat_seg {α : Type} {f : Nat → List α} {S : List Seg} {c : Nat} (h : ∀ (j : Nat) (s : Seg), S[j]? = some s → (f s.n).length ≤ c * s.L.length) : ((S.map (·.n)).flatMap f).length ≤ c * (lall S).length := by
  induction S with
  | nil => simp [lall]
  | cons s S ih =>
    have a := h 0 s rfl
    have b := ih (fun j t hj => h (j + 1) t (by simpa using hj))
    simp only [List.map_cons, List.flatMap_cons, lall_cons, List.length_append]
    rw [Nat.mul_add]
    omega
theorem pagesL_len : ∀ (r lv : Nat) (sh : List Pg) (n : Nat) (L : List It) (f : Nat), Tr sh r n L f → (pagesL r lv sh n).length ≤ r * L.length
  | 0, _, _, _, _, _, h => False.elim h
  | r + 1, lv, sh, n, L, f, h => by
    have l1 : 1 ≤ L.length := List.length_pos_iff.2 h.ne
    obtain ⟨p, h1, hp, h3⟩ := h
    obtain ⟨g, ne, ⟨l, rfl, rfl⟩ | ⟨l, S, e1, rfl, rfl, bt⟩⟩ := hp
    · rw [pagesL_at h1, (goodB_leaf g l).2]
      rw [Nat.succ_mul]
      simp
      omega
    · rw [pagesL_at h1, e1]
      have q := flat_seg (f := pagesL r (lv + 1) sh) (S := S) (c := r) (fun j s hj => pagesL_len r (lv + 1) sh s.n s.L s.f (bt.ok j s hj).1)
      rw [Nat.succ_mul, List.length_cons]
      omega
/-- All stays but blocks P, T and R and the told ones' row. -/
structure Fv (w w' : World) (P T R : Nat) (o : Option Nat) : Prop where
  os : w'.os = w.os
  tape : w'.tape = w.tape
  output : w'.output = w.output
  size : w.heap.size ≤ w'.heap.size
  block : ∀ k, k < w.heap.size → k ≠ P → k ≠ T → k ≠ R → some k ≠ o → w'.heap[k]? = w.heap[k]?
theorem Fv.refl (w : World) (P T R : Nat) (o : Option Nat) : Fv w w P T R o := ⟨rfl, rfl, rfl, Nat.le_refl _, fun _ _ _ _ _ _ => rfl⟩
theorem Fv.trans {a b c : World} {P T R : Nat} {o o' : Option Nat} (h : Fv a b P T R o) (k : Fv b c P T R o') (ho : Nw a o o') : Fv a c P T R o :=
  ⟨k.os.trans h.os, k.tape.trans h.tape, k.output.trans h.output, Nat.le_trans h.size k.size, fun i h1 h2 h3 h5 h4 => (k.block i (Nat.lt_of_lt_of_le h1 h.size) h2 h3 h5 (fun e => by
    rcases ho with rfl | ⟨g, rfl, hg⟩
    · exact h4 e
    · have := Option.some.inj e; omega)).trans (h.block i h1 h2 h3 h5 h4)⟩
theorem Fv.below {a b c : World} {P T R : Nat} {o : Option Nat} (h : Fv a b P T R o) (k : Below b.heap.size b c) : Fv a c P T R o :=
  h.trans (o' := o) ⟨k.os, k.tape, k.output, k.size, fun i h1 _ _ _ _ => k.block i h1⟩ (Or.inl rfl)
theorem Fv.gw {a b c : World} {P T R : Nat} {o : Option Nat} (h : Fv a b P T R o) (k : Gw b c P (some R)) : Fv a c P T R o :=
  h.trans (o' := o) ⟨k.os, k.tape, k.output, k.size, fun i h1 h2 _ h3 _ => k.block i h1 h2 (fun e => h3 (Option.some.inj e))⟩ (Or.inl rfl)
theorem Fv.tell {a b c : World} {P T R : Nat} {o o' : Option Nat} (h : Fv a b P T R o) (k : Fr b c T T o') (ho : Nw a o o') : Fv a c P T R o :=
  h.trans ⟨k.os, k.tape, k.output, k.size, fun i h1 h2 h3 h4 h5 => k.block i h1 h3 h3 h5⟩ ho
/-- A shelf that nothing of this touches. -/
theorem Shf.fr {w w' : World} {P T : Nat} {o : Option Nat} {sl : Value} {vs : List V4} {sh : List Pg} {ill n : Nat} (h : Shf w P sl vs sh ill n) (f : Fr w w' T T o) (hP : P < T) (ho : ∀ g, o = some g → T < g) (hsl : ∀ B, T ≤ B → sl.ownBlock ≠ some B) (hoff : ∀ B, T ≤ B → OffV vs B) : Shf w' P sl vs sh ill n := by
  have k : w'.heap[P]? = w.heap[P]? := f.block P h.lt (by omega) (by omega) (fun e => by have := ho P e.symm; omega)
  have kc : ∀ i, w'.cell? ⟨P, i, none⟩ = w.cell? ⟨P, i, none⟩ := fun i => World.cell?_of_block (w := w) (a := ⟨P, i, none⟩) k
  have ko : ∀ b, sl.ownBlock = some b → w'.heap[b]? = w.heap[b]? := fun b hb => f.block b (h.own.lt b hb).2 (fun e => hsl T (Nat.le_refl _) (by rw [hb, e])) (fun e => hsl T (Nat.le_refl _) (by rw [hb, e])) (fun e => hsl b (by have := ho b e.symm; omega) hb)
  refine ⟨(kc 0).trans h.c0, (kc 1).trans h.c1, (kc 2).trans h.c2, fun i hi => (kc i).trans (h.past i hi), frozen_kept h.fz k, ⟨h.own.1, ?_⟩, h.len, fun i x p q1 q2 => ?_, h.kp, h.ne, fun b hb => (h.nt b hb).kept (ko b hb)⟩
  · rcases h.own.2 with hn | ⟨g, cap, cur, hv, hb, hg, rest⟩
    · exact .inl hn
    · exact .inr ⟨g, cap, cur, hv, hb, by rw [ko g (by rw [hv]; rfl)]; exact hg, rest⟩
  · have hx := List.mem_of_getElem? q1
    obtain ⟨ka, kn, kc, va, vn, vc, ia, im, ic, e, k1, k2, k3⟩ := (h.pv i x p q1 q2).ex
    obtain ⟨a1, a2, a3⟩ := hoff T (Nat.le_refl _) x hx _ _ _ _ _ _ _ _ _ _ e
    refine ⟨⟨ka, kn, kc, va, vn, vc, ia, im, ic, e, k1.kept fun hn y hy => f.block y.block (k1.old hn y hy) (a1 y hn hy) (a1 y hn hy) (fun q => ?_), k2.kept fun hn y hy => f.block y.block (k2.old hn y hy) (a2 y hn hy) (a2 y hn hy) (fun q => ?_), k3.kept fun hn y hy => f.block y.block (k3.old hn y hy) (a3 y hn hy) (a3 y hn hy) (fun q => ?_)⟩, (h.pv i x p q1 q2).kid⟩
    · exact (hoff y.block (by have := ho _ q.symm; omega) x hx _ _ _ _ _ _ _ _ _ _ e).1 y hn hy rfl
    · exact (hoff y.block (by have := ho _ q.symm; omega) x hx _ _ _ _ _ _ _ _ _ _ e).2.1 y hn hy rfl
    · exact (hoff y.block (by have := ho _ q.symm; omega) x hx _ _ _ _ _ _ _ _ _ _ e).2.2 y hn hy rfl
theorem Pv.fv {w w' : World} {P T R : Nat} {o : Option Nat} {v : Value} {p : Pg} (h : Pv w v p) (hp : Ps p.kids) (f : Fv w w' P T R o) (nP : NT w P) (oT : Off v T) (oR : Off v R) (oo : ∀ g, o = some g → Off v g) : Pv w' v p := by
  obtain ⟨ka, kn, kc, va, vn, vc, ia, im, ic, e, k1, k2, k3⟩ := h.ex
  obtain ⟨a1, a2, a3⟩ := oT _ _ _ _ _ _ _ _ _ _ e
  obtain ⟨b1, b2, b3⟩ := oR _ _ _ _ _ _ _ _ _ _ e
  refine ⟨⟨ka, kn, kc, va, vn, vc, ia, im, ic, e, k1.kept fun hn x hx => f.block x.block (k1.old hn x hx) (nP.offS k1 hn x hx) (a1 x hn hx) (b1 x hn hx) (fun q => ?_), k2.kept fun hn x hx => f.block x.block (k2.old hn x hx) (nP.offS k2 hn x hx) (a2 x hn hx) (b2 x hn hx) (fun q => ?_), k3.kept fun hn x hx => f.block x.block (k3.old hn x hx) (nP.offK k3 hp hn x hx) (a3 x hn hx) (b3 x hn hx) (fun q => ?_)⟩, h.kid⟩
  · exact (oo x.block q.symm _ _ _ _ _ _ _ _ _ _ e).1 x hn hx rfl
  · exact (oo x.block q.symm _ _ _ _ _ _ _ _ _ _ e).2.1 x hn hx rfl
  · exact (oo x.block q.symm _ _ _ _ _ _ _ _ _ _ e).2.2 x hn hx rfl
/-- One that is told pages. -/
structure Tel (fid : Nat) (T R : Nat) (J : World → Option Nat → List (Nat × Nat) → Prop) : Prop where
  kept : ∀ {W W' : World} {o : Option Nat} {t : List (Nat × Nat)}, J W o t → W'.heap[T]? = W.heap[T]? → (∀ g, o = some g → W'.heap[g]? = W.heap[g]?) → J W' o t
  lt : ∀ {W : World} {o : Option Nat} {t : List (Nat × Nat)}, J W o t → T < W.heap.size ∧ ∀ g, o = some g → R < g ∧ g < W.heap.size
  tell : ∀ (W : World) (o : Option Nat) (t : List (Nat × Nat)) (k lv : Nat), J W o t → t.length ≤ 5000 → k ≤ 1000000 → lv ≤ 20 → R < W.heap.size → Calls Try.prog fid #[.int .u64 (k : Nat), .int .i64 (lv : Nat), .pointer (some ⟨T, 0, none⟩)] W fun e w' => e = .returned (.tuple #[]) ∧ ∃ o', J w' o' (t ++ [(k, lv)]) ∧ Fr W w' T T o ∧ Nw W o o'
theorem Tel.below {fid T R : Nat} {J : World → Option Nat → List (Nat × Nat) → Prop} (h : Tel fid T R J) {W W' : World} {o : Option Nat} {t : List (Nat × Nat)} (j : J W o t) (b : Below W.heap.size W W') : J W' o t :=
  h.kept j (b.block T (h.lt j).1) (fun g e => b.block g ((h.lt j).2 g e).2)
theorem Tel.gw {fid T R P : Nat} {J : World → Option Nat → List (Nat × Nat) → Prop} (h : Tel fid T R J) {W W' : World} {o : Option Nat} {t : List (Nat × Nat)} (j : J W o t) (b : Gw W W' P (some R)) (hP : P < T) (hR : T < R) : J W' o t :=
  h.kept j (b.block T (h.lt j).1 (by omega) (fun e => by have := Option.some.inj e; omega)) (fun g e => by
    have q := (h.lt j).2 g e
    exact b.block g q.2 (by omega) (fun e => by have := Option.some.inj e; omega))

end Go.Proofs.Ythdjghmipepppaa

namespace Go.Proofs.Ythdjghmipepppaa
open Go.RowKit Go.Shelf
set_option linter.unusedVariables false
set_option linter.unusedSimpArgs false
attribute [local go_sem] Oper.semAt_some

/-- What visiting leaves. -/
def VisP (w w' : World) (P T R : Nat) (J : World → Option Nat → List (Nat × Nat) → Prop) (sl : Value) (vs : List V4) (sh : List Pg) (r k lv rd n : Nat) (L : List It) (o : Option Nat) (t : List (Nat × Nat)) (e : Ending) : Prop :=
  e = .returned (.int .i64 0) ∧ ∃ o' rd' n', Rdr w' R P rd' ∧ Shf w' P sl vs sh 0 n' ∧ J w' o' (t ++ pagesL r lv sh k) ∧ Fv w w' P T R o ∧ Nw w o o' ∧ rd' ≤ rd + r * L.length ∧ n ≤ n' ∧ n' ≤ n + r * L.length
/-- While a page's kids are gone through. -/
structure Vk (w wr : World) (P T R B : Nat) (J : World → Option Nat → List (Nat × Nat) → Prop) (sl : Value) (vs : List V4) (sh : List Pg) (rd n : Nat) (lf : Bool) (kk vv ii : Value) (p : Pg) (o0 o : Option Nat) (t : List (Nat × Nat)) : Prop where
  rdr : Rdr wr R P rd
  box : Bq wr B (.bool lf) kk vv ii
  pv : Pv wr (.agg #[.bool lf, kk, vv, ii]) p
  shf : Shf wr P sl vs sh 0 n
  j : J wr o t
  fr : Fv w wr P T R o0
  no : Nw w o0 o
  ne : o ≠ some B
theorem Vk.below {fid : Nat} {w wr wx : World} {P T R B rd n : Nat} {J : World → Option Nat → List (Nat × Nat) → Prop} (hJ : Tel fid T R J) {sl : Value} {vs : List V4} {sh : List Pg} {lf : Bool} {kk vv ii : Value} {p : Pg} {o0 o : Option Nat} {t : List (Nat × Nat)} (h : Vk w wr P T R B J sl vs sh rd n lf kk vv ii p o0 o t) (k : Below wr.heap.size wr wx) : Vk w wx P T R B J sl vs sh rd n lf kk vv ii p o0 o t :=
  ⟨h.rdr.below k, h.box.below k, h.pv.below k, h.shf.below k, hJ.below h.j k, h.fr.below k, h.no, h.ne⟩
theorem Vk.next {fid : Nat} {w wr wx : World} {P T R B rd n rd' n' : Nat} {J : World → Option Nat → List (Nat × Nat) → Prop} (hJ : Tel fid T R J) {sl : Value} {vs : List V4} {sh : List Pg} {lf : Bool} {kk vv ii : Value} {p : Pg} {o0 o o' : Option Nat} {t t' : List (Nat × Nat)} (h : Vk w wr P T R B J sl vs sh rd n lf kk vv ii p o0 o t) (hk : Ps p.kids) (hR : T < R) (hB : R < B) (hP : P < T) (hy : ∀ B, T ≤ B → Off (.agg #[.bool lf, kk, vv, ii]) B)
    (r : Rdr wx R P rd') (s : Shf wx P sl vs sh 0 n') (j : J wx o' t') (f : Fv wr wx P T R o) (nw : Nw wr o o') : Vk w wx P T R B J sl vs sh rd' n' lf kk vv ii p o0 o' t' := by
  refine ⟨r, h.box.kept (f.block B h.box.lt (by omega) (by omega) (by omega) (fun e => h.ne e.symm)), h.pv.fv hk f h.shf.ntP (hy T (Nat.le_refl _)) (hy R (by omega)) (fun g e => hy g (by have := (hJ.lt h.j).2 g e; omega)), s, j, h.fr.trans f h.no, h.no.trans nw h.fr.size, fun e => ?_⟩
  rcases nw with q | ⟨g, q, hg⟩
  · exact h.ne (by rw [← q]; exact e)
  · rw [q] at e
    have := Option.some.inj e
    have := h.box.lt
    omega
theorem Vk.told {fid : Nat} {w wr wx : World} {P T R B rd n : Nat} {J : World → Option Nat → List (Nat × Nat) → Prop} (hJ : Tel fid T R J) {sl : Value} {vs : List V4} {sh : List Pg} {lf : Bool} {kk vv ii : Value} {p : Pg} {o0 o o' : Option Nat} {t t' : List (Nat × Nat)} (h : Vk w wr P T R B J sl vs sh rd n lf kk vv ii p o0 o t) (hk : Ps p.kids) (hR : T < R) (hB : R < B) (hP : P < T) (hy : ∀ B, T ≤ B → Off (.agg #[.bool lf, kk, vv, ii]) B) (hsl : ∀ B, T ≤ B → sl.ownBlock ≠ some B) (hoff : ∀ B, T ≤ B → OffV vs B)
    (j : J wx o' t') (f : Fr wr wx T T o) (nw : Nw wr o o') : Vk w wx P T R B J sl vs sh rd n lf kk vv ii p o0 o' t' := by
  have ol : ∀ g, o = some g → R < g := fun g e => ((hJ.lt h.j).2 g e).1
  have rl := h.rdr.lt
  refine h.next hJ hk hR hB hP hy (h.rdr.kept (f.block R rl (by omega) (by omega) (fun e => by have := ol R e.symm; omega))) (h.shf.fr f hP (fun g e => by have := ol g e; omega) hsl hoff) j ((Fv.refl wr P T R o).tell f (Or.inl rfl)) nw

def VisOk_uPages1 (P T R : Nat) (J : World → Option Nat → List (Nat × Nat) → Prop) (sl : Value) (vs : List V4) (sh : List Pg) (r : Nat) : Prop :=
  ∀ (k lv rd n : Nat) (L : List It) (f : Nat) (o : Option Nat) (t : List (Nat × Nat)) (w : World), Rdr w R P rd → Shf w P sl vs sh 0 n → J w o t → Tr sh r k L f → L.length ≤ 127 → lv + r ≤ 21 → rd + r * L.length ≤ 4096 → t.length + r * L.length ≤ 5000 → n + r * L.length ≤ 800000000 →
    Calls Try.prog 76 #[.pointer (some ⟨R, 0, none⟩), .int .u64 (k : Nat), .int .i64 (lv : Nat), .func (.func 54) #[] #[.pointer (some ⟨T, 0, none⟩)]] w fun e w' => VisP w w' P T R J sl vs sh r k lv rd n L o t e
set_option maxRecDepth 100000 in
set_option maxHeartbeats 16000000 in
theorem visit_next_uPages1 (P T R : Nat) (J : World → Option Nat → List (Nat × Nat) → Prop) (hJ : Tel 54 T R J) (sl : Value) (vs : List V4) (sh : List Pg) (hP : P < T) (hR : T < R) (hsl : ∀ B, T ≤ B → sl.ownBlock ≠ some B) (hoff : ∀ B, T ≤ B → OffV vs B) (hs : sh.length ≤ 1000000) (r : Nat) (ih : VisOk_uPages1 P T R J sl vs sh r) : VisOk_uPages1 P T R J sl vs sh (r + 1) := by
  have IH : Hid _ := ih
  have TJ : Hid _ := hJ
  clear ih hJ
  intro k lv rd n L f o t w h s j tr hL hlv hrd hac hn
  obtain ⟨r', p, e_r, hk, g, ft, nk, ps, cs⟩ := tr.top hL (by omega)
  cases e_r
  have l1 : 1 ≤ L.length := List.length_pos_iff.2 tr.ne
  have m1 : (r + 1) * L.length = r * L.length + L.length := Nat.succ_mul _ _
  have hkn := tr.num
  have K : Hid _ := Gpage_ok R P sl vs sh 0 n k rd lv p w s h (by omega) (by omega) (by omega) hk (by omega) (by omega) (hsl R (by omega)) (hoff R (by omega)) (by omega) (by omega) g ft.bd
  have JW : Hid (J w o t) := j
  have HS : Hid _ := hsl
  have HO : Hid _ := hoff
  have PS : Hid _ := ps
  have CS : Hid (∃ S, p.kids = S.map (·.n) ∧ (lall S).length ≤ L.length ∧ ∀ (j : Nat) (s : Seg), S[j]? = some s → Tr sh r s.n s.L s.f) := by
    rcases cs with ⟨q, _⟩ | ⟨_, _, S, q1, q2, q3⟩
    · exact ⟨[], by rw [(goodB_leaf g q).2]; rfl, by simp [lall], fun j s hj => by simp at hj⟩
    · exact ⟨S, q1, by rw [q2]; exact Nat.le_refl _, fun j s hj => (q3.ok j s hj).1⟩
  have HC : Hid _ := h.lt
  have HL : Hid _ := hL
  have LV : Hid _ := hlv
  have RD : Hid _ := hrd
  have AC : Hid _ := hac
  have NN : Hid _ := hn
  have M1 : Hid _ := m1
  have L1 : Hid _ := l1
  have PA : Hid _ := pagesL_at hk r lv
  have lv1 : (lv : Int) ≤ 20 := by omega
  have k1 : (k : Int) ≤ 1000000 := by omega
  have fk : p.kids.length ≤ 2001 := ft.kids
  clear h s j tr hL hlv hrd hac hn hk g ft nk ps cs l1 m1 hsl hoff
  go_enter Try.func76, Try.ntmps76
  go_wp2_with fail
  refine Calls.mono K.out ?_
  rintro e w2 ⟨x, rfl, hm', pv', R2'⟩
  have R2 : Hid _ := R2'
  have pv : Hid _ := pv'
  have J2 : Hid _ := TJ.out.gw JW.out R2'.gw hP hR
  have HY : Hid (∀ B, T ≤ B → Off x.agg B) := fun B hB => HO.out B hB x hm'
  clear R2' pv' hm' K
  have W2 : Hid (w.heap.size ≤ w2.heap.size) := R2.out.gw.size
  obtain ⟨lf, ka, kn, kc, va, vn, vc, ia, im, ic⟩ := x
  dsimp only [V4.agg] at pv HY ⊢
  have b3 : Hid _ := allocB w2 (.cells #[.bool lf, .slice ka kn kc, .slice va vn vc, .slice ia im ic] 54)
  have B3 : Hid (Vk w (w2.alloc (.cells #[.bool lf, .slice ka kn kc, .slice va vn vc, .slice ia im ic] 54)) P T R w2.heap.size J sl vs sh (rd + 1) (n + 1) lf (.slice ka kn kc) (.slice va vn vc) (.slice ia im ic) p o o t) :=
    ⟨R2.out.rdr.below b3.out, Bq.new w2 _ _ _ _ _, pv.out.below b3.out, R2.out.shf.below b3.out, TJ.out.below J2.out b3.out, ((Fv.refl w P T R o).gw R2.out.gw).below b3.out, Or.inl rfl, fun e => by have := ((TJ.out.lt J2.out).2 _ e).2; omega⟩
  have TE : Hid _ := TJ.out.tell _ o t k lv B3.out.j (by have := AC.out; omega) (by omega) (by omega) B3.out.rdr.lt
  go_upto_region 4 with fail
  generalize w2.alloc (.cells #[.bool lf, .slice ka kn kc, .slice va vn vc, .slice ia im ic] 54) = w3 at *
  clear J2 R2 pv
  go_wp2_with fail
  refine Calls.mono TE.out ?_
  rintro e w5 ⟨rfl, o5, j5, f5, n5⟩
  have RB : Hid (R < w2.heap.size) := Nat.lt_of_lt_of_le HC.out W2.out
  have T2 : Hid _ := B3.out.told TJ.out PS.out hR RB.out hP HY.out HS.out HO.out j5 f5 n5
  clear j5 f5 n5 TE B3
  obtain ⟨_, _, _, _, _, _, _, _, _, e1, q1', q2', k3⟩ := T2.out.pv.ex
  injection e1 with e1
  have e2 := congrArg Array.toList e1
  simp only [List.cons.injEq] at e2
  obtain ⟨e5, e4, e3, e6, e7⟩ := e2
  injection e6 with q7 q8 q9
  subst q7 q8 q9
  have l3 := k3.klen
  have HF : Hid (∀ W, Pv W (.agg #[.bool lf, .slice ka kn kc, .slice va vn vc, .slice ia im ic]) p → Sl W ia im ic (kv p.kids)) := fun W q => by
    obtain ⟨_, _, _, _, _, _, _, _, _, e1, k1, k2, k3⟩ := q.ex
    injection e1 with e1
    have e2 := congrArg Array.toList e1
    simp only [List.cons.injEq] at e2
    obtain ⟨_, e4, e3, e6, _⟩ := e2
    injection e6 with q7 q8 q9
    subst q7 q8 q9
    exact k3
  clear e1 e5 e4 e3 e7 q1' q2' k3
  obtain ⟨S, EK', SL', ST'⟩ := CS.out
  have EK : Hid _ := EK'
  have SL : Hid _ := SL'
  have ST : Hid _ := ST'
  have hkl : p.kids.length = S.length := by rw [EK', List.length_map]
  clear EK' SL' ST' CS
  obtain ⟨y0, y1, y2, y3⟩ := T2.out.box.b4
  go_upto_region 6 with fail
  clear y0 y1 y2 y3
  have T3 : Hid (Vk w w5 P T R w2.heap.size J sl vs sh (rd + 1) (n + 1) lf (.slice ka kn kc) (.slice va vn vc) (.slice ia im ic) p o o5 (t ++ [(k, lv)] ++ (p.kids.take 0).flatMap (pagesL r (lv + 1) sh))) := by
    rw [List.take_zero, List.flatMap_nil, List.append_nil]
    exact T2.out
  clear T2
  have e8 : ((lv + 1 : Nat) : Int) = (lv : Int) + 1 := by omega
  have E8 : Hid _ := e8
  clear e8
  have LP : Hid (∀ i, ((p.kids.take i).flatMap (pagesL r (lv + 1) sh)).length ≤ r * (lall (S.take i)).length) := fun i => by
    rw [EK.out, ← List.map_take]
    exact flat_seg (fun j s hj => pagesL_len r (lv + 1) sh s.n s.L s.f (ST.out j s (by
      have jl := lt_of_some hj
      rw [List.length_take] at jl
      rw [List.getElem?_take, if_pos (by omega)] at hj
      exact hj)))
  go_loopg [31] im (fun g iv wr => ∃ (i : Nat) (o' : Option Nat) (rd' n' : Nat), i ≤ im ∧ g = im - i ∧ iv = .int .i64 (i : Nat) ∧ Hid (Vk w wr P T R w2.heap.size J sl vs sh rd' n' lf (.slice ka kn kc) (.slice va vn vc) (.slice ia im ic) p o o' (t ++ [(k, lv)] ++ (p.kids.take i).flatMap (pagesL r (lv + 1) sh))) ∧ Hid (rd' ≤ rd + 1 + r * (lall (S.take i)).length ∧ n ≤ n' ∧ n' ≤ n + 1 + r * (lall (S.take i)).length))
  case atStart => exact ⟨0, o5, rd + 1, n + 1, by omega, by omega, rfl, T3.out, by omega, by omega, by omega⟩
  case round =>
    obtain ⟨i, o', rd', n', hi, rfl, rfl, V, N⟩ := hrel
    have SK := HF.out wr V.out.pv
    have TL : Hid (r * (lall (S.take i)).length ≤ r * L.length) := Nat.mul_le_mul_left r (Nat.le_trans (take_len _) SL.out)
    by_cases c : i < im
    · have c' : (i : Int) < (im : Int) := by omega
      obtain ⟨kb, ko, rfl, _⟩ := SK.at (by omega)
      obtain ⟨s, hsi⟩ : ∃ s, S[i]? = some s := ⟨_, List.getElem?_eq_getElem (by omega)⟩
      have gd : p.kids.getD i 0 = s.n := by rw [EK.out]; exact getD_map hsi
      have kcell : wr.cell? ⟨kb, ko + i, none⟩ = some (.int .u64 (s.n : Nat)) := by rw [← gd]; exact SK.num (by omega)
      have tr : Hid _ := ST.out _ s hsi
      have LN : Hid ((lall (S.take (i + 1))).length = (lall (S.take i)).length + s.L.length ∧ (lall (S.take (i + 1))).length ≤ L.length) := ⟨by rw [lall_next hsi, List.length_append], Nat.le_trans (take_len _) SL.out⟩
      have LN2 : Hid (r * (lall (S.take (i + 1))).length = r * (lall (S.take i)).length + r * s.L.length ∧ r * (lall (S.take (i + 1))).length ≤ r * L.length) := ⟨by rw [LN.out.1, Nat.mul_add], Nat.mul_le_mul_left r LN.out.2⟩
      have snum : s.n ≤ 1000000 := by have := tr.out.num; omega
      have FN : Hid ((p.kids.take (i + 1)).flatMap (pagesL r (lv + 1) sh) = (p.kids.take i).flatMap (pagesL r (lv + 1) sh) ++ pagesL r (lv + 1) sh s.n) := by rw [← gd]; exact flat_next (by omega)
      have TLn : Hid ((t ++ [(k, lv)] ++ (p.kids.take i).flatMap (pagesL r (lv + 1) sh)).length ≤ t.length + 1 + r * (lall (S.take i)).length) := by
        have q := LP.out i
        rw [List.length_append, List.length_append, List.length_singleton]
        exact Nat.add_le_add_left q _
      have IHX : Hid _ := IH.out s.n (lv + 1) rd' n' s.L s.f o' _ wr V.out.rdr V.out.shf V.out.j tr.out (by have := LN.out; have := HL.out; omega) (by have := LV.out; omega) (by have := N.out; have := LN2.out; have := RD.out; have := M1.out; have := L1.out; omega) (by have := TLn.out; have := LN2.out; have := AC.out; have := M1.out; have := L1.out; omega) (by have := N.out; have := LN2.out; have := NN.out; have := M1.out; have := L1.out; omega)
      rw [E8.out] at IHX
      clear SK hsi gd
      go_wp2_with fail
      refine Calls.mono IHX.out ?_
      rintro e w8 ⟨rfl, o8, rd8, n8, c8, s8, j8, f8, x8, m8, m8', m8''⟩
      have V8 : Hid _ := V.out.next TJ.out PS.out hR RB.out hP HY.out c8 s8 j8 f8 x8
      rw [List.append_assoc, ← FN.out] at V8
      have N8 : Hid (rd8 ≤ rd + 1 + r * (lall (S.take (i + 1))).length ∧ n ≤ n8 ∧ n8 ≤ n + 1 + r * (lall (S.take (i + 1))).length) := ⟨by have := N.out; have := LN2.out; omega, by have := N.out; omega, by have := N.out; have := LN2.out; omega⟩
      clear c8 s8 j8 f8 x8 m8 m8' m8'' V IHX kcell
      go_wp2
      go_roundg (im - (i + 1))
      case measure => omega
      case rel => exact ⟨i + 1, _, _, _, by omega, rfl, by go_num, V8.out, N8.out⟩
    · obtain rfl : im = i := by omega
      have ZE : Hid (p.kids.take im = p.kids) := List.take_of_length_le (by omega)
      rw [ZE.out, List.append_assoc, List.singleton_append, ← PA.out] at V
      clear SK
      go_wp2
      go_ret
      exact ⟨rfl, _, _, _, V.out.rdr, V.out.shf, V.out.j, V.out.fr, V.out.no, by have := N.out; have := TL.out; have := M1.out; have := L1.out; omega, N.out.2.1, by have := N.out; have := TL.out; have := M1.out; have := L1.out; omega⟩

theorem visit_any_uPages1 (P T R : Nat) (J : World → Option Nat → List (Nat × Nat) → Prop) (hJ : Tel 54 T R J) (sl : Value) (vs : List V4) (sh : List Pg) (hP : P < T) (hR : T < R) (hsl : ∀ B, T ≤ B → sl.ownBlock ≠ some B) (hoff : ∀ B, T ≤ B → OffV vs B) (hs : sh.length ≤ 1000000) : ∀ r, VisOk_uPages1 P T R J sl vs sh r
  | 0 => fun k lv rd n L f o t w _ _ _ tr => False.elim tr
  | r + 1 => visit_next_uPages1 P T R J hJ sl vs sh hP hR hsl hoff hs r (visit_any_uPages1 P T R J hJ sl vs sh hP hR hsl hoff hs r)

end Go.Proofs.Ythdjghmipepppaa

namespace Go.Proofs.Ythdjghmipepppaa
open Go.RowKit Go.Shelf
set_option linter.unusedVariables false
set_option linter.unusedSimpArgs false
attribute [local go_sem] Oper.semAt_some

def VisOk_uDeep1 (P T R : Nat) (J : World → Option Nat → List (Nat × Nat) → Prop) (sl : Value) (vs : List V4) (sh : List Pg) (r : Nat) : Prop :=
  ∀ (k lv rd n : Nat) (L : List It) (f : Nat) (o : Option Nat) (t : List (Nat × Nat)) (w : World), Rdr w R P rd → Shf w P sl vs sh 0 n → J w o t → Tr sh r k L f → L.length ≤ 127 → lv + r ≤ 21 → rd + r * L.length ≤ 4096 → t.length + r * L.length ≤ 5000 → n + r * L.length ≤ 800000000 →
    Calls Try.prog 76 #[.pointer (some ⟨R, 0, none⟩), .int .u64 (k : Nat), .int .i64 (lv : Nat), .func (.func 55) #[] #[.pointer (some ⟨T, 0, none⟩)]] w fun e w' => VisP w w' P T R J sl vs sh r k lv rd n L o t e
set_option maxRecDepth 100000 in
set_option maxHeartbeats 16000000 in
theorem visit_next_uDeep1 (P T R : Nat) (J : World → Option Nat → List (Nat × Nat) → Prop) (hJ : Tel 55 T R J) (sl : Value) (vs : List V4) (sh : List Pg) (hP : P < T) (hR : T < R) (hsl : ∀ B, T ≤ B → sl.ownBlock ≠ some B) (hoff : ∀ B, T ≤ B → OffV vs B) (hs : sh.length ≤ 1000000) (r : Nat) (ih : VisOk_uDeep1 P T R J sl vs sh r) : VisOk_uDeep1 P T R J sl vs sh (r + 1) := by
  have IH : Hid _ := ih
  have TJ : Hid _ := hJ
  clear ih hJ
  intro k lv rd n L f o t w h s j tr hL hlv hrd hac hn
  obtain ⟨r', p, e_r, hk, g, ft, nk, ps, cs⟩ := tr.top hL (by omega)
  cases e_r
  have l1 : 1 ≤ L.length := List.length_pos_iff.2 tr.ne
  have m1 : (r + 1) * L.length = r * L.length + L.length := Nat.succ_mul _ _
  have hkn := tr.num
  have K : Hid _ := Gpage_ok R P sl vs sh 0 n k rd lv p w s h (by omega) (by omega) (by omega) hk (by omega) (by omega) (hsl R (by omega)) (hoff R (by omega)) (by omega) (by omega) g ft.bd
  have JW : Hid (J w o t) := j
  have HS : Hid _ := hsl
  have HO : Hid _ := hoff
  have PS : Hid _ := ps
  have CS : Hid (∃ S, p.kids = S.map (·.n) ∧ (lall S).length ≤ L.length ∧ ∀ (j : Nat) (s : Seg), S[j]? = some s → Tr sh r s.n s.L s.f) := by
    rcases cs with ⟨q, _⟩ | ⟨_, _, S, q1, q2, q3⟩
    · exact ⟨[], by rw [(goodB_leaf g q).2]; rfl, by simp [lall], fun j s hj => by simp at hj⟩
    · exact ⟨S, q1, by rw [q2]; exact Nat.le_refl _, fun j s hj => (q3.ok j s hj).1⟩
  have HC : Hid _ := h.lt
  have HL : Hid _ := hL
  have LV : Hid _ := hlv
  have RD : Hid _ := hrd
  have AC : Hid _ := hac
  have NN : Hid _ := hn
  have M1 : Hid _ := m1
  have L1 : Hid _ := l1
  have PA : Hid _ := pagesL_at hk r lv
  have lv1 : (lv : Int) ≤ 20 := by omega
  have k1 : (k : Int) ≤ 1000000 := by omega
  have fk : p.kids.length ≤ 2001 := ft.kids
  clear h s j tr hL hlv hrd hac hn hk g ft nk ps cs l1 m1 hsl hoff
  go_enter Try.func76, Try.ntmps76
  go_wp2_with fail
  refine Calls.mono K.out ?_
  rintro e w2 ⟨x, rfl, hm', pv', R2'⟩
  have R2 : Hid _ := R2'
  have pv : Hid _ := pv'
  have J2 : Hid _ := TJ.out.gw JW.out R2'.gw hP hR
  have HY : Hid (∀ B, T ≤ B → Off x.agg B) := fun B hB => HO.out B hB x hm'
  clear R2' pv' hm' K
  have W2 : Hid (w.heap.size ≤ w2.heap.size) := R2.out.gw.size
  obtain ⟨lf, ka, kn, kc, va, vn, vc, ia, im, ic⟩ := x
  dsimp only [V4.agg] at pv HY ⊢
  have b3 : Hid _ := allocB w2 (.cells #[.bool lf, .slice ka kn kc, .slice va vn vc, .slice ia im ic] 54)
  have B3 : Hid (Vk w (w2.alloc (.cells #[.bool lf, .slice ka kn kc, .slice va vn vc, .slice ia im ic] 54)) P T R w2.heap.size J sl vs sh (rd + 1) (n + 1) lf (.slice ka kn kc) (.slice va vn vc) (.slice ia im ic) p o o t) :=
    ⟨R2.out.rdr.below b3.out, Bq.new w2 _ _ _ _ _, pv.out.below b3.out, R2.out.shf.below b3.out, TJ.out.below J2.out b3.out, ((Fv.refl w P T R o).gw R2.out.gw).below b3.out, Or.inl rfl, fun e => by have := ((TJ.out.lt J2.out).2 _ e).2; omega⟩
  have TE : Hid _ := TJ.out.tell _ o t k lv B3.out.j (by have := AC.out; omega) (by omega) (by omega) B3.out.rdr.lt
  go_upto_region 4 with fail
  generalize w2.alloc (.cells #[.bool lf, .slice ka kn kc, .slice va vn vc, .slice ia im ic] 54) = w3 at *
  clear J2 R2 pv
  go_wp2_with fail
  refine Calls.mono TE.out ?_
  rintro e w5 ⟨rfl, o5, j5, f5, n5⟩
  have RB : Hid (R < w2.heap.size) := Nat.lt_of_lt_of_le HC.out W2.out
  have T2 : Hid _ := B3.out.told TJ.out PS.out hR RB.out hP HY.out HS.out HO.out j5 f5 n5
  clear j5 f5 n5 TE B3
  obtain ⟨_, _, _, _, _, _, _, _, _, e1, q1', q2', k3⟩ := T2.out.pv.ex
  injection e1 with e1
  have e2 := congrArg Array.toList e1
  simp only [List.cons.injEq] at e2
  obtain ⟨e5, e4, e3, e6, e7⟩ := e2
  injection e6 with q7 q8 q9
  subst q7 q8 q9
  have l3 := k3.klen
  have HF : Hid (∀ W, Pv W (.agg #[.bool lf, .slice ka kn kc, .slice va vn vc, .slice ia im ic]) p → Sl W ia im ic (kv p.kids)) := fun W q => by
    obtain ⟨_, _, _, _, _, _, _, _, _, e1, k1, k2, k3⟩ := q.ex
    injection e1 with e1
    have e2 := congrArg Array.toList e1
    simp only [List.cons.injEq] at e2
    obtain ⟨_, e4, e3, e6, _⟩ := e2
    injection e6 with q7 q8 q9
    subst q7 q8 q9
    exact k3
  clear e1 e5 e4 e3 e7 q1' q2' k3
  obtain ⟨S, EK', SL', ST'⟩ := CS.out
  have EK : Hid _ := EK'
  have SL : Hid _ := SL'
  have ST : Hid _ := ST'
  have hkl : p.kids.length = S.length := by rw [EK', List.length_map]
  clear EK' SL' ST' CS
  obtain ⟨y0, y1, y2, y3⟩ := T2.out.box.b4
  go_upto_region 6 with fail
  clear y0 y1 y2 y3
  have T3 : Hid (Vk w w5 P T R w2.heap.size J sl vs sh (rd + 1) (n + 1) lf (.slice ka kn kc) (.slice va vn vc) (.slice ia im ic) p o o5 (t ++ [(k, lv)] ++ (p.kids.take 0).flatMap (pagesL r (lv + 1) sh))) := by
    rw [List.take_zero, List.flatMap_nil, List.append_nil]
    exact T2.out
  clear T2
  have e8 : ((lv + 1 : Nat) : Int) = (lv : Int) + 1 := by omega
  have E8 : Hid _ := e8
  clear e8
  have LP : Hid (∀ i, ((p.kids.take i).flatMap (pagesL r (lv + 1) sh)).length ≤ r * (lall (S.take i)).length) := fun i => by
    rw [EK.out, ← List.map_take]
    exact flat_seg (fun j s hj => pagesL_len r (lv + 1) sh s.n s.L s.f (ST.out j s (by
      have jl := lt_of_some hj
      rw [List.length_take] at jl
      rw [List.getElem?_take, if_pos (by omega)] at hj
      exact hj)))
  go_loopg [31] im (fun g iv wr => ∃ (i : Nat) (o' : Option Nat) (rd' n' : Nat), i ≤ im ∧ g = im - i ∧ iv = .int .i64 (i : Nat) ∧ Hid (Vk w wr P T R w2.heap.size J sl vs sh rd' n' lf (.slice ka kn kc) (.slice va vn vc) (.slice ia im ic) p o o' (t ++ [(k, lv)] ++ (p.kids.take i).flatMap (pagesL r (lv + 1) sh))) ∧ Hid (rd' ≤ rd + 1 + r * (lall (S.take i)).length ∧ n ≤ n' ∧ n' ≤ n + 1 + r * (lall (S.take i)).length))
  case atStart => exact ⟨0, o5, rd + 1, n + 1, by omega, by omega, rfl, T3.out, by omega, by omega, by omega⟩
  case round =>
    obtain ⟨i, o', rd', n', hi, rfl, rfl, V, N⟩ := hrel
    have SK := HF.out wr V.out.pv
    have TL : Hid (r * (lall (S.take i)).length ≤ r * L.length) := Nat.mul_le_mul_left r (Nat.le_trans (take_len _) SL.out)
    by_cases c : i < im
    · have c' : (i : Int) < (im : Int) := by omega
      obtain ⟨kb, ko, rfl, _⟩ := SK.at (by omega)
      obtain ⟨s, hsi⟩ : ∃ s, S[i]? = some s := ⟨_, List.getElem?_eq_getElem (by omega)⟩
      have gd : p.kids.getD i 0 = s.n := by rw [EK.out]; exact getD_map hsi
      have kcell : wr.cell? ⟨kb, ko + i, none⟩ = some (.int .u64 (s.n : Nat)) := by rw [← gd]; exact SK.num (by omega)
      have tr : Hid _ := ST.out _ s hsi
      have LN : Hid ((lall (S.take (i + 1))).length = (lall (S.take i)).length + s.L.length ∧ (lall (S.take (i + 1))).length ≤ L.length) := ⟨by rw [lall_next hsi, List.length_append], Nat.le_trans (take_len _) SL.out⟩
      have LN2 : Hid (r * (lall (S.take (i + 1))).length = r * (lall (S.take i)).length + r * s.L.length ∧ r * (lall (S.take (i + 1))).length ≤ r * L.length) := ⟨by rw [LN.out.1, Nat.mul_add], Nat.mul_le_mul_left r LN.out.2⟩
      have snum : s.n ≤ 1000000 := by have := tr.out.num; omega
      have FN : Hid ((p.kids.take (i + 1)).flatMap (pagesL r (lv + 1) sh) = (p.kids.take i).flatMap (pagesL r (lv + 1) sh) ++ pagesL r (lv + 1) sh s.n) := by rw [← gd]; exact flat_next (by omega)
      have TLn : Hid ((t ++ [(k, lv)] ++ (p.kids.take i).flatMap (pagesL r (lv + 1) sh)).length ≤ t.length + 1 + r * (lall (S.take i)).length) := by
        have q := LP.out i
        rw [List.length_append, List.length_append, List.length_singleton]
        exact Nat.add_le_add_left q _
      have IHX : Hid _ := IH.out s.n (lv + 1) rd' n' s.L s.f o' _ wr V.out.rdr V.out.shf V.out.j tr.out (by have := LN.out; have := HL.out; omega) (by have := LV.out; omega) (by have := N.out; have := LN2.out; have := RD.out; have := M1.out; have := L1.out; omega) (by have := TLn.out; have := LN2.out; have := AC.out; have := M1.out; have := L1.out; omega) (by have := N.out; have := LN2.out; have := NN.out; have := M1.out; have := L1.out; omega)
      rw [E8.out] at IHX
      clear SK hsi gd
      go_wp2_with fail
      refine Calls.mono IHX.out ?_
      rintro e w8 ⟨rfl, o8, rd8, n8, c8, s8, j8, f8, x8, m8, m8', m8''⟩
      have V8 : Hid _ := V.out.next TJ.out PS.out hR RB.out hP HY.out c8 s8 j8 f8 x8
      rw [List.append_assoc, ← FN.out] at V8
      have N8 : Hid (rd8 ≤ rd + 1 + r * (lall (S.take (i + 1))).length ∧ n ≤ n8 ∧ n8 ≤ n + 1 + r * (lall (S.take (i + 1))).length) := ⟨by have := N.out; have := LN2.out; omega, by have := N.out; omega, by have := N.out; have := LN2.out; omega⟩
      clear c8 s8 j8 f8 x8 m8 m8' m8'' V IHX kcell
      go_wp2
      go_roundg (im - (i + 1))
      case measure => omega
      case rel => exact ⟨i + 1, _, _, _, by omega, rfl, by go_num, V8.out, N8.out⟩
    · obtain rfl : im = i := by omega
      have ZE : Hid (p.kids.take im = p.kids) := List.take_of_length_le (by omega)
      rw [ZE.out, List.append_assoc, List.singleton_append, ← PA.out] at V
      clear SK
      go_wp2
      go_ret
      exact ⟨rfl, _, _, _, V.out.rdr, V.out.shf, V.out.j, V.out.fr, V.out.no, by have := N.out; have := TL.out; have := M1.out; have := L1.out; omega, N.out.2.1, by have := N.out; have := TL.out; have := M1.out; have := L1.out; omega⟩

theorem visit_any_uDeep1 (P T R : Nat) (J : World → Option Nat → List (Nat × Nat) → Prop) (hJ : Tel 55 T R J) (sl : Value) (vs : List V4) (sh : List Pg) (hP : P < T) (hR : T < R) (hsl : ∀ B, T ≤ B → sl.ownBlock ≠ some B) (hoff : ∀ B, T ≤ B → OffV vs B) (hs : sh.length ≤ 1000000) : ∀ r, VisOk_uDeep1 P T R J sl vs sh r
  | 0 => fun k lv rd n L f o t w _ _ _ tr => False.elim tr
  | r + 1 => visit_next_uDeep1 P T R J hJ sl vs sh hP hR hsl hoff hs r (visit_any_uDeep1 P T R J hJ sl vs sh hP hR hsl hoff hs r)

end Go.Proofs.Ythdjghmipepppaa

