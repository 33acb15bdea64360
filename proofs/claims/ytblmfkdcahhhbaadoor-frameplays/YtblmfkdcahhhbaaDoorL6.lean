/- The program's disk and area and the reference's, side by side in memory; what the calls make of them; same. -/
import Derived.Test.YtblmfkdcahhhbaaDoorL5
import Derived.Test.YtblmfkdcahhhbaaDoorJ2
namespace Go.Proofs.YtblmfkdcahhhbaaDoor
open Go.RowKit
set_option linter.unusedVariables false
set_option linter.unusedSimpArgs false

theorem BAdd_any (w : World) (pb p q N : Nat) (s : St) (ar : Ar) (v : Value) (h : Bm w pb p ar v) (d : Kk w p q N s) (ok : ArOk N ar) (sm : FaOk ar.fs) (kd : Int) (hk : 0 ≤ kd ∧ kd < 256) (b : List Int) (hb : Bys b) (hw : s.writes ≤ 900000) (ne : pb ≠ p ∧ pb ≠ q) (sv : ∀ g, v.ownBlock = some g → g ≠ p ∧ g ≠ q) :
    Calls Tryd.prog 17 #[.pointer (some ⟨pb, 0, none⟩), .int .u8 kd, .string (strOfNums b)] w fun e w' => BAddP w pb p q N v (addG N s ar kd b) e w' := by
  rcases Nat.lt_or_ge 1000 b.length with h1 | h1
  · exact BAdd_big w pb p q N s ar v h d kd b h1
  rcases Decidable.em (s.lives = ar.lives) with h2 | h2
  · rcases Nat.lt_or_ge (ar.count - used ar.fs) (fsize b.length) with h3 | h3
    · exact BAdd_full w pb p q N s ar v h d ok sm kd b h1 h2 h3
    · exact BAdd_go w pb p q N s ar v h d ok sm kd hk b hb h1 h2 h3 hw ne sv
  · exact BAdd_over w pb p q N s ar v h d kd b h1 h2
theorem wrs_wr {N i : Nat} {f : Nat → List Int} : ∀ (k : Nat) (s : St), (wrs N i f k s).2.writes ≤ s.writes + k ∧ (wrs N i f k s).2.lives = s.lives
  | 0, s => ⟨Nat.le_refl _, rfl⟩
  | k + 1, s => by
    have h1 := wS_wr N s ((i + k : Nat) : Int) (f k)
    by_cases e : wE N s ((i + k : Nat) : Int) (f k) = 0
    · rw [wrs_go e]
      have h2 := wrs_wr (N := N) (i := i) (f := f) k (wS N s ((i + k : Nat) : Int) (f k))
      exact ⟨by omega, by rw [h2.2, h1.2]⟩
    · rw [wrs_end e]
      exact ⟨by show (wS N s ((i + k : Nat) : Int) (f k)).writes ≤ _; omega, h1.2⟩
theorem addG_wr (N : Nat) (s : St) (ar : Ar) (kd : Int) (b : List Int) : (addG N s ar kd b).s.writes ≤ s.writes + 17 ∧ (addG N s ar kd b).s.lives = s.lives := by
  rcases Nat.lt_or_ge 1000 b.length with h1 | h1
  · rw [addG_big h1]; exact ⟨by show s.writes ≤ _; omega, rfl⟩
  rcases Decidable.em (s.lives = ar.lives) with h2 | h2
  · rcases Nat.lt_or_ge (ar.count - used ar.fs) (fsize b.length) with h3 | h3
    · rw [addG_full h1 h2 h3]; exact ⟨by show s.writes ≤ _; omega, rfl⟩
    · have hz := fsize_le h1
      have hw : (addW N s ar kd b).2.writes ≤ s.writes + fsize b.length ∧ (addW N s ar kd b).2.lives = s.lives := wrs_wr _ _
      by_cases e : (addW N s ar kd b).1 = 0
      · rw [addG_good h1 h2 h3 e]; exact ⟨by show (addW N s ar kd b).2.writes ≤ _; omega, hw.2⟩
      · rw [addG_bad h1 h2 h3 e]; exact ⟨by show (addW N s ar kd b).2.writes ≤ _; omega, hw.2⟩
  · rw [addG_over h1 h2]; exact ⟨by show s.writes ≤ _; omega, rfl⟩
theorem FaOk.addG {N : Nat} {s : St} {ar : Ar} (h : FaOk ar.fs) (kd : Int) (hk : 0 ≤ kd ∧ kd < 256) (b : List Int) (hb : Bys b) : FaOk (addG N s ar kd b).a.fs := by
  rcases Nat.lt_or_ge 1000 b.length with h1 | h1
  · rw [addG_big h1]; exact h
  rcases Decidable.em (s.lives = ar.lives) with h2 | h2
  · rcases Nat.lt_or_ge (ar.count - used ar.fs) (fsize b.length) with h3 | h3
    · rw [addG_full h1 h2 h3]; exact h
    · by_cases e : (addW N s ar kd b).1 = 0
      · rw [addG_good h1 h2 h3 e]; exact h.snoc h1 hk hb
      · rw [addG_bad h1 h2 h3 e]; exact h
  · rw [addG_over h1 h2]; exact h

/-- The program's disk (p, q) and area (pa, va) and the reference's (p', q', pb, vw), each at a state; they share no block. -/
structure Duo (w0 W : World) (pa p q pb p' q' N : Nat) (s : St) (ar : Ar) (va : Value) (s' : St) (ar' : Ar) (vw : Value) : Prop where
  d : Dk W p q N s
  am : Am W pa p ar va
  k : Kk W p' q' N s'
  bm : Bm W pb p' ar' vw
  ap : ∀ x, x ∈ p :: q :: pa :: vb va → x ∉ p' :: q' :: pb :: vb vw
  na : pa ≠ p ∧ pa ≠ q
  nv : ∀ g, va.ownBlock = some g → g ≠ p ∧ g ≠ q
  nb : pb ≠ p' ∧ pb ≠ q'
  nw : ∀ g, vw.ownBlock = some g → g ≠ p' ∧ g ≠ q'
  la : ∀ x, x ∈ p :: q :: pa :: vb va → w0.heap.size ≤ x
  lb : ∀ x, x ∈ p' :: q' :: pb :: vb vw → w0.heap.size ≤ x
  b : Below w0.heap.size w0 W
  ok : ArOk N ar
  ok' : ArOk N ar'
  sm : FaOk ar'.fs
  pos : laidP ar.fs
  t0 : Tab w0
section
variable {w0 W W' : World} {pa p q pb p' q' N : Nat} {s s1 s' : St} {ar ar1 ar' : Ar} {va va1 vw : Value}
theorem Duo.tab (h : Duo w0 W pa p q pb p' q' N s ar va s' ar' vw) : Tab W := h.t0.next h.b
theorem Duo.lta (h : Duo w0 W pa p q pb p' q' N s ar va s' ar' vw) : ∀ x, x ∈ p :: q :: pa :: vb va → x < W.heap.size := fun x hx => by
  rcases List.mem_cons.1 hx with rfl | hx
  · exact h.d.ltp
  rcases List.mem_cons.1 hx with rfl | hx
  · exact h.d.ltq
  rcases List.mem_cons.1 hx with rfl | hx
  · exact h.am.lt
  · exact (owns_lt h.am.own (vb_mem.1 hx)).1
theorem Duo.ltb (h : Duo w0 W pa p q pb p' q' N s ar va s' ar' vw) : ∀ x, x ∈ p' :: q' :: pb :: vb vw → x < W.heap.size := fun x hx => by
  rcases List.mem_cons.1 hx with rfl | hx
  · exact h.k.ltp
  rcases List.mem_cons.1 hx with rfl | hx
  · exact h.k.ltq
  rcases List.mem_cons.1 hx with rfl | hx
  · exact h.bm.lt
  · exact (owns_lt h.bm.own (vb_mem.1 hx)).1
theorem Duo.below (h : Duo w0 W pa p q pb p' q' N s ar va s' ar' vw) (b : Below W.heap.size W W') : Duo w0 W' pa p q pb p' q' N s ar va s' ar' vw :=
  ⟨h.d.below b, h.am.below b, h.k.below b, h.bm.below b, h.ap, h.na, h.nv, h.nb, h.nw, h.la, h.lb, nextB h.b b, h.ok, h.ok', h.sm, h.pos, h.t0⟩
/-- A call of the program's. -/
theorem Duo.fst (h : Duo w0 W pa p q pb p' q' N s ar va s' ar' vw) (d : Dk W' p q N s1) (am : Am W' pa p ar1 va1) (ow : va1.ownBlock = va.ownBlock ∨ ∃ g, va1.ownBlock = some g ∧ W.heap.size ≤ g) (ch : Ch1 (p :: q :: pa :: vb va) W W') (ok : ArOk N ar1) (pos : laidP ar1.fs) : Duo w0 W' pa p q pb p' q' N s1 ar1 va1 s' ar' vw := by
  have no : ∀ x, x ∈ p' :: q' :: pb :: vb vw → W'.heap[x]? = W.heap[x]? := fun x hx => ch.block x (h.ltb x hx) (fun c => h.ap x c hx)
  have key : ∀ x, x ∈ p :: q :: pa :: vb va1 → x ∈ p :: q :: pa :: vb va ∨ W.heap.size ≤ x := fun x hx => by
    rcases List.mem_cons.1 hx with rfl | hx
    · exact .inl (by simp)
    rcases List.mem_cons.1 hx with rfl | hx
    · exact .inl (by simp)
    rcases List.mem_cons.1 hx with rfl | hx
    · exact .inl (by simp)
    · have hx := vb_mem.1 hx
      rcases ow with e | ⟨g, e, hg⟩
      · rw [e] at hx
        exact .inl (List.mem_cons_of_mem _ (List.mem_cons_of_mem _ (List.mem_cons_of_mem _ (vb_mem.2 hx))))
      · rw [e] at hx; cases hx; exact .inr hg
  refine ⟨d, am, h.k.kept (no p' (by simp)) (no q' (by simp)), h.bm.kept (no pb (by simp)) (fun g hg => no g (List.mem_cons_of_mem _ (List.mem_cons_of_mem _ (List.mem_cons_of_mem _ (vb_mem.2 hg))))), fun x hx hy => ?_, h.na, fun g hg => ?_, h.nb, h.nw, fun x hx => ?_, h.lb, Below.ch h.b ch h.la, ok, h.ok', h.sm, pos, h.t0⟩
  · rcases key x hx with e | e
    · exact h.ap x e hy
    · have := h.ltb x hy; omega
  · rcases ow with e | ⟨g', e, hg'⟩
    · exact h.nv g (by rw [← e]; exact hg)
    · rw [e] at hg; cases hg
      have := h.d.ltp; have := h.d.ltq
      omega
  · rcases key x hx with e | e
    · exact h.la x e
    · have := h.b.size; omega
/-- A call of the reference's. -/
theorem Duo.snd (h : Duo w0 W pa p q pb p' q' N s ar va s' ar' vw) (k : Kk W' p' q' N s1) (bm : Bm W' pb p' ar1 va1) (ow : va1.ownBlock = vw.ownBlock ∨ ∃ g, va1.ownBlock = some g ∧ W.heap.size ≤ g) (ch : Ch1 (p' :: q' :: pb :: vb vw) W W') (ok : ArOk N ar1) (sm : FaOk ar1.fs) : Duo w0 W' pa p q pb p' q' N s ar va s1 ar1 va1 := by
  have no : ∀ x, x ∈ p :: q :: pa :: vb va → W'.heap[x]? = W.heap[x]? := fun x hx => ch.block x (h.lta x hx) (fun c => h.ap x hx c)
  have key : ∀ x, x ∈ p' :: q' :: pb :: vb va1 → x ∈ p' :: q' :: pb :: vb vw ∨ W.heap.size ≤ x := fun x hx => by
    rcases List.mem_cons.1 hx with rfl | hx
    · exact .inl (by simp)
    rcases List.mem_cons.1 hx with rfl | hx
    · exact .inl (by simp)
    rcases List.mem_cons.1 hx with rfl | hx
    · exact .inl (by simp)
    · have hx := vb_mem.1 hx
      rcases ow with e | ⟨g, e, hg⟩
      · rw [e] at hx
        exact .inl (List.mem_cons_of_mem _ (List.mem_cons_of_mem _ (List.mem_cons_of_mem _ (vb_mem.2 hx))))
      · rw [e] at hx; cases hx; exact .inr hg
  refine ⟨h.d.kept (no p (by simp)) (no q (by simp)), h.am.kept (no pa (by simp)) (fun g hg => no g (List.mem_cons_of_mem _ (List.mem_cons_of_mem _ (List.mem_cons_of_mem _ (vb_mem.2 hg))))), k, bm, fun x hx hy => ?_, h.na, h.nv, h.nb, fun g hg => ?_, h.la, fun x hx => ?_, Below.ch h.b ch h.lb, h.ok, ok, sm, h.pos, h.t0⟩
  · rcases key x hy with e | e
    · exact h.ap x hx e
    · have := h.lta x hx; omega
  · rcases ow with e | ⟨g', e, hg'⟩
    · exact h.nw g (by rw [← e]; exact hg)
    · rw [e] at hg; cases hg
      have := h.k.ltp; have := h.k.ltq
      omega
  · rcases key x hx with e | e
    · exact h.lb x e
    · have := h.b.size; omega
theorem Duo.grA (h : Duo w0 W pa p q pb p' q' N s ar va s' ar' vw) (d : Dk W' p q N s1) (g : Gr p q W W') : Duo w0 W' pa p q pb p' q' N s1 ar va s' ar' vw :=
  h.fst d (h.am.kept (g.block pa h.am.lt h.na.1 h.na.2) (fun x hx => g.block x (owns_lt h.am.own hx).1 (h.nv x hx).1 (h.nv x hx).2)) (.inl rfl) ((Ch1.of_gr g).mono (fun x hx => by simp at hx ⊢; omega)) h.ok h.pos
theorem Duo.grB (h : Duo w0 W pa p q pb p' q' N s ar va s' ar' vw) (k : Kk W' p' q' N s1) (g : Gr p' q' W W') : Duo w0 W' pa p q pb p' q' N s ar va s1 ar' vw :=
  h.snd k (h.bm.kept (g.block pb h.bm.lt h.nb.1 h.nb.2) (fun x hx => g.block x (owns_lt h.bm.own hx).1 (h.nw x hx).1 (h.nw x hx).2)) (.inl rfl) ((Ch1.of_gr g).mono (fun x hx => by simp at hx ⊢; omega)) h.ok' h.sm
/-- New areas of both. -/
theorem Duo.anew {W1 W2 : World} {v2 : Value} (h : Duo w0 W pa p q pb p' q' N s ar va s' ar' vw) (a1 : Am W1 W.heap.size p ar1 va1) (o1 : ∀ g, va1.ownBlock = some g → W.heap.size ≤ g) (b1 : Below W.heap.size W W1) (a2 : Bm W2 W1.heap.size p' ar1 v2) (o2 : ∀ g, v2.ownBlock = some g → W1.heap.size ≤ g) (b2 : Below W1.heap.size W1 W2) (ok : ArOk N ar1) (sm : FaOk ar1.fs) (pos : laidP ar1.fs) :
    Duo w0 W2 W.heap.size p q W1.heap.size p' q' N s ar1 va1 s' ar1 v2 := by
  have b12 := nextB b1 b2
  have hp := h.d.ltp
  have hq := h.d.ltq
  have hp' := h.k.ltp
  have hq' := h.k.ltq
  have hs := b1.size
  have h0 := h.b.size
  have la : ∀ x, x ∈ p :: q :: W.heap.size :: vb va1 → (x = p ∨ x = q ∨ (W.heap.size ≤ x ∧ x < W1.heap.size)) := fun x hx => by
    rcases List.mem_cons.1 hx with rfl | hx
    · exact .inl rfl
    rcases List.mem_cons.1 hx with rfl | hx
    · exact .inr (.inl rfl)
    rcases List.mem_cons.1 hx with rfl | hx
    · exact .inr (.inr ⟨Nat.le_refl _, a1.lt⟩)
    · exact .inr (.inr ⟨o1 x (vb_mem.1 hx), (owns_lt a1.own (vb_mem.1 hx)).1⟩)
  have lb : ∀ x, x ∈ p' :: q' :: W1.heap.size :: vb v2 → (x = p' ∨ x = q' ∨ W1.heap.size ≤ x) := fun x hx => by
    rcases List.mem_cons.1 hx with rfl | hx
    · exact .inl rfl
    rcases List.mem_cons.1 hx with rfl | hx
    · exact .inr (.inl rfl)
    rcases List.mem_cons.1 hx with rfl | hx
    · exact .inr (.inr (Nat.le_refl _))
    · exact .inr (.inr (o2 x (vb_mem.1 hx)))
  have n1 : p ≠ p' := fun e => h.ap p (by simp) (by simp [e])
  have n2 : p ≠ q' := fun e => h.ap p (by simp) (by simp [e])
  have n3 : q ≠ p' := fun e => h.ap q (by simp) (by simp [e])
  have n4 : q ≠ q' := fun e => h.ap q (by simp) (by simp [e])
  have l1 := h.la p (by simp)
  have l2 := h.la q (by simp)
  have l3 := h.lb p' (by simp)
  have l4 := h.lb q' (by simp)
  refine ⟨h.d.below b12, a1.below b2, h.k.below b12, a2, fun x hx hy => ?_, by omega, fun g hg => by have := o1 g hg; omega, by omega, fun g hg => by have := o2 g hg; omega, fun x hx => ?_, fun x hx => ?_, nextB h.b b12, ok, ok, sm, pos, h.t0⟩
  · have := la x hx; have := lb x hy; omega
  · have := la x hx; omega
  · have := lb x hx; omega
theorem Duo.addA (h : Duo w0 W pa p q pb p' q' N s ar va s' ar' vw) (kd : Int) (hk : 0 ≤ kd ∧ kd < 256) (a : Option Addr) (m c : Nat) (bs : List Int) (y : By W a m c bs) (hw : s.writes ≤ 900000) :
    Calls Tryd.prog 10 #[.pointer (some ⟨pa, 0, none⟩), .int .u8 kd, .slice a m c] W fun e W' => e = .returned (.tuple #[.int .i64 (addG N s ar kd bs).pos, .int .i64 (addG N s ar kd bs).err]) ∧ (∃ va1, Duo w0 W' pa p q pb p' q' N (addG N s ar kd bs).s (addG N s ar kd bs).a va1 s' ar' vw) ∧ Ch1 (p :: q :: pa :: vb va) W W' := by
  refine (Add_any W pa p q N s ar va h.am h.d h.ok h.tab kd hk a m c bs y hw h.na h.nv).mono ?_
  rintro e W' ⟨rfl, d, ⟨v', am', ow⟩, ch⟩
  exact ⟨rfl, ⟨v', h.fst d am' ow ch (h.ok.addG kd bs) (laidP_addG h.pos)⟩, ch⟩
theorem Duo.addB (h : Duo w0 W pa p q pb p' q' N s ar va s' ar' vw) (kd : Int) (hk : 0 ≤ kd ∧ kd < 256) (bs : List Int) (y : Bys bs) (hw : s'.writes ≤ 900000) :
    Calls Tryd.prog 17 #[.pointer (some ⟨pb, 0, none⟩), .int .u8 kd, .string (strOfNums bs)] W fun e W' => e = .returned (.tuple #[.int .i64 (addG N s' ar' kd bs).pos, .int .i64 (addG N s' ar' kd bs).err]) ∧ (∃ v1, Duo w0 W' pa p q pb p' q' N s ar va (addG N s' ar' kd bs).s (addG N s' ar' kd bs).a v1) ∧ Ch1 (p' :: q' :: pb :: vb vw) W W' := by
  refine (BAdd_any W pb p' q' N s' ar' vw h.bm h.k h.ok' h.sm kd hk bs y hw h.nb h.nw).mono ?_
  rintro e W' ⟨rfl, d, ⟨v', am', ow⟩, ch⟩
  exact ⟨rfl, ⟨v', h.snd d am' ow ch (h.ok'.addG kd bs) (h.sm.addG kd hk bs y)⟩, ch⟩
end

set_option maxRecDepth 100000 in
set_option maxHeartbeats 4000000 in
theorem same_any (w0 w : World) (pa p q pb p' q' N : Nat) (s s' : St) (ar : Ar) (va vw : Value) (h : Duo w0 w pa p q pb p' q' N s ar va s' ar vw) :
    Calls Tryd.prog 25 #[.pointer (some ⟨pa, 0, none⟩), .pointer (some ⟨pb, 0, none⟩)] w fun e w' => e = .returned (.bool true) ∧ Below w.heap.size w w' := by
  have H : Hid _ := h
  have AL : Hid _ := All_any w pa p ar va h.am (by have := h.ok.len; omega)
  have u1 : (used ar.fs : Int) ≤ (ar.count : Int) := by have := h.ok.fit; omega
  have u2 : (ar.count : Int) ≤ 4096 := by have := h.ok.far; have := h.ok.big; omega
  have fl : (ar.fs.length : Int) ≤ 4096 := by have := h.ok.len; omega
  clear h
  go_enter Tryd.func25, Tryd.ntmps25
  go_wp2_with fail
  refine Calls.mono AL.out ?_
  rintro e w1 ⟨⟨a, cap, rfl, ln⟩, b1⟩
  have B1 : Hid _ := b1
  have LN : Hid _ := ln
  have H1 : Hid _ := H.out.below b1
  clear ln b1 AL H
  obtain ⟨a2, cap2, rfl, f1, f2, f3, g2, h21, h22⟩ := H1.out.bm.form
  have G1 : Hid _ := h21
  have G2 : Hid _ := h22
  have c4 := H1.out.bm.c4
  have c3 := H1.out.bm.c3
  have c2 := H1.out.bm.c2
  have LI : Hid _ := fun k => (Life_any (w1.drewN k) pa p ar va (H1.out.am.drewN k)).mono fun e w' ⟨a, b⟩ => (⟨a, b.symm⟩ : e = _ ∧ w' = _)
  have RO : Hid _ := fun k => Room_any (w1.drewN k) pa p N ar va (H1.out.am.drewN k) H1.out.ok
  have US : Hid _ := fun k => (BUsed_any (w1.drewN k) pb p' N ar _ (H1.out.bm.drewN k) H1.out.ok (fun f hf => (H1.out.sm f hf).1)).mono fun e w' ⟨a, b⟩ => (⟨a, b.symm⟩ : e = _ ∧ w' = _)
  have EZ : ((ar.count - used ar.fs : Nat) : Int) = (ar.count : Int) - (used ar.fs : Int) := by omega
  rw [EZ] at RO
  clear h21 h22 f1 f2 f3 EZ
  go_upto_region 2 with fail
  go_quiet (first | (go_at_call 28; exact Calls.quiet_of_same (LI.out _)) | (go_at_call 27; exact Calls.quiet_of (RO.out _)) | (go_at_call 42; exact Calls.quiet_of_same (US.out _)))
  have B2 : Hid (Below w.heap.size w (w1.drewN nq)) := drewB B1.out nq
  have L2 : Hid (Ln (w1.drewN nq) a ar.fs.length cap (posI ar.fs)) := LN.out.below (drewB (Below.refl _ _) nq)
  have K2 : Hid (∀ i, (hi : i < ar.fs.length) → (w1.drewN nq).cell? ⟨g2, i * 3, none⟩ = some (.int .i64 ((ar.fs[i]).pos : Nat))) := fun i hi => (G2.out i hi).1
  have c4' : (w1.drewN nq).cell? ⟨pb, 4, none⟩ = some (.slice a2 ar.fs.length cap2) := c4
  clear c2 c3 c4 LI RO US G2 LN B1 H1
  generalize w1.drewN nq = w2 at *
  clear nq
  go_wp2_with fail
  go_loopg [6] ar.fs.length (fun g iv wr => ∃ k j : Nat, k ≤ ar.fs.length ∧ g = ar.fs.length - k ∧ iv = .int .i64 (k : Nat) ∧ wr = w2.drewN j)
  case atStart => exact ⟨0, 0, Nat.zero_le _, rfl, rfl, rfl⟩
  case round =>
    obtain ⟨k, j, hk, rfl, rfl, rfl⟩ := hrel
    by_cases qk : k < ar.fs.length
    · have qk' : (k : Int) < (ar.fs.length : Int) := by omega
      obtain ⟨g1, t1, t2⟩ := L2.out.cell
      obtain rfl := t1 (by omega)
      obtain rfl := G1.out (by omega)
      have m1 : (w2.drewN j).cell? ⟨g1, k, none⟩ = some (.int .i64 (posI ar.fs k)) := t2 k qk
      have m2 : (w2.drewN j).cell? ⟨g2, k * 3, none⟩ = some (.int .i64 ((ar.fs[k]).pos : Nat)) := K2.out k qk
      rw [posI_at qk] at m1
      have m4 : (w2.drewN j).cell? ⟨pb, 4, none⟩ = some (.slice (some ⟨g2, 0, none⟩) ar.fs.length cap2) := c4'
      clear t1 t2 c4'
      generalize (ar.fs[k]).pos = at_ at *
      generalize hwj : w2.drewN j = w3 at *
      go_wp2_with fail
      go_quiet (fail)
      go_wp2
      go_roundg (ar.fs.length - (k + 1))
      case measure => omega
      case rel => exact ⟨k + 1, j + nq, qk, rfl, by congr 1, by rw [← hwj, World.drewN_drewN]⟩
    · obtain rfl : k = ar.fs.length := by omega
      go_wp2
      go_ret
      exact ⟨rfl, drewB B2.out j⟩

end Go.Proofs.YtblmfkdcahhhbaaDoor
