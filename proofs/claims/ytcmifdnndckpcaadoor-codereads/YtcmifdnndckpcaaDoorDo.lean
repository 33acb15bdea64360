/- The walks over code's Decode and Same. -/
import Derived.Test.YtcmifdnndckpcaaDoorDn
namespace Go.Proofs.YtcmifdnndckpcaaDoor
open Go.RowKit
set_option linter.unusedVariables false
set_option linter.unusedSimpArgs false

/-- What stands between a program's mark and its sum. -/
def mid (bs : List Int) : List Int := (bs.take (bs.length - 4)).drop 4
def zP : PP := ([], [], [], [], [], [], [])
def rdP (bs : List Int) : PP := ((cProg false).rd (mid bs, false)).1
/-- What Decode reads. -/
def decP (bs : List Int) : Option PP := if 8 ≤ bs.length ∧ bytesOf (rdP bs) = bs then some (rdP bs) else none
theorem bys_mid {bs : List Int} (h : Bys bs) : Bys (mid bs) := (h.take _).drop _
theorem mid_len (bs : List Int) : (mid bs).length ≤ bs.length := by unfold mid; rw [List.length_drop, List.length_take]; omega
theorem rdP_len {bs : List Int} (h : Bys bs) (hn : bs.length ≤ 700000) : (bodyOf (rdP bs)).length ≤ 8000000 := by
  have z := (cProg_good false).size (mid bs, false) (bys_mid h)
  have l := mid_len bs
  have m : (if ((cProg false).rd (mid bs, false)).2.2 = true then (cProg false).most else 0) ≤ 100 := by split <;> decide
  have e : ((cProg false).en ((cProg false).rd (mid bs, false)).1).length = (bodyOf (rdP bs)).length := rfl
  rw [e] at z
  simp only at z
  omega
theorem rdP_ok {bs : List Int} (h : Bys bs) : (cProg false).ok (rdP bs) := ((cProg_good false).fine (mid bs, false) (bys_mid h)).1
theorem Pw.zero (w : World) : Pw w (.agg #[.slice none 0 0, .slice none 0 0, .slice none 0 0, .slice none 0 0, .slice none 0 0, .slice none 0 0, .slice none 0 0]) zP :=
  ⟨none, 0, 0, none, 0, 0, none, 0, 0, none, 0, 0, none, 0, 0, none, 0, 0, none, 0, 0, rfl, Vw.empty _ _ _, Vw.empty _ _ _, Vw.empty _ _ _, Vw.empty _ _ _, Vw.empty _ _ _, Vw.empty _ _ _, Vw.empty _ _ _⟩
def errP (bs : List Int) : Int := match decP bs with | some _ => 0 | none => 3
theorem decP_yes {bs : List Int} (h : 8 ≤ bs.length) (k : bytesOf (rdP bs) = bs) : decP bs = some (rdP bs) ∧ errP bs = 0 := by
  have : decP bs = some (rdP bs) := by unfold decP; rw [if_pos ⟨h, k⟩]
  exact ⟨this, by unfold errP; rw [this]⟩
theorem decP_no {bs : List Int} (h : ¬ (8 ≤ bs.length ∧ bytesOf (rdP bs) = bs)) : decP bs = none ∧ errP bs = 3 := by
  have : decP bs = none := by unfold decP; rw [if_neg h]
  exact ⟨this, by unfold errP; rw [this]⟩
/-- What Decode answers. -/
def DcP (w w' : World) (e : Ending) (bs : List Int) : Prop := ∃ v, e = .returned (.tuple #[v, .int .i64 (errP bs)]) ∧ Pw w' v ((decP bs).getD zP) ∧ Below w.heap.size w w'
/-- No number and no text lies in the block. -/
def Ns (w : World) (r : Nat) : Prop := ∀ i, (∀ x, w.cell? ⟨r, i, none⟩ ≠ some (.int .i64 x)) ∧ ∀ s, w.cell? ⟨r, i, none⟩ ≠ some (.string s)
theorem ns_zero {w : World} {r : Nat} {T : TypeId} (h : Bx w r T #[.slice none 0 0, .slice none 0 0, .slice none 0 0, .slice none 0 0, .slice none 0 0, .slice none 0 0, .slice none 0 0]) : Ns w r := by
  intro i
  have e : w.cell? ⟨r, i, none⟩ = (#[.slice none 0 0, .slice none 0 0, .slice none 0 0, .slice none 0 0, .slice none 0 0, .slice none 0 0, .slice none 0 0] : Array Value)[i]? := by simp only [World.cell?, h.at_]; rfl
  rw [e]
  match i with
  | 0 => exact ⟨fun x e => by simp at e, fun x e => by simp at e⟩
  | 1 => exact ⟨fun x e => by simp at e, fun x e => by simp at e⟩
  | 2 => exact ⟨fun x e => by simp at e, fun x e => by simp at e⟩
  | 3 => exact ⟨fun x e => by simp at e, fun x e => by simp at e⟩
  | 4 => exact ⟨fun x e => by simp at e, fun x e => by simp at e⟩
  | 5 => exact ⟨fun x e => by simp at e, fun x e => by simp at e⟩
  | 6 => exact ⟨fun x e => by simp at e, fun x e => by simp at e⟩
  | i + 7 => exact ⟨fun x e => by simp at e, fun x e => by simp at e⟩
def Nb {α : Type} (A : World → Nat → Nat → α → Prop) : Prop := ∀ (w w' : World) (r g p : Nat) (x : α), A w g p x → w.grownBy w' (some r) → Ns w r → A w' g p x
theorem Vw.but {α : Type} {A : World → Nat → Nat → α → Prop} {k : Nat} {w w' : World} {a : Option Addr} {m r : Nat} {xs : List α} (h : Vw A k w a m xs) (n : Nb A) (g : w.grownBy w' (some r)) (s : Ns w r) : Vw A k w' a m xs := by
  obtain ⟨g0, o, h1, h2⟩ := h.at_
  exact ⟨h.len, g0, o, h1, fun i x hx => n _ _ _ _ _ _ (h2 i x hx) g s⟩
theorem cel_but {w w' : World} {r g p : Nat} {v : Value} (h : w.cell? ⟨g, p, none⟩ = some v) (gr : w.grownBy w' (some r)) (n : g ≠ r) : w'.cell? ⟨g, p, none⟩ = some v := gr.cell h (fun e => n (by injection e))
theorem aI_nb : Nb aI := fun w w' r g p x h gr s => ⟨cel_but h.1 gr (fun e => (s p).1 x (by subst e; exact h.1)), h.2⟩
theorem aS_nb : Nb aS := fun w w' r g p x ⟨t, h⟩ gr s => ⟨t, cel_but h.1 gr (fun e => (s p).2 t (by subst e; exact h.1)), h.2⟩
theorem aC_nb : Nb aC := fun w w' r g p x ⟨h1, h2, ⟨a, m, c, h3⟩, h4⟩ gr s => by
  have n : g ≠ r := fun e => (s p).1 x.1 (by subst e; exact h1)
  exact ⟨cel_but h1 gr n, cel_but h2 gr n, ⟨a, m, c, cel_but h3 gr n⟩, h4⟩
theorem aN_nb : Nb aN := fun w w' r g p x ⟨h1, h2, h3, h4, h5⟩ gr s => by
  have n : g ≠ r := fun e => (s p).1 x.1 (by subst e; exact h1)
  exact ⟨cel_but h1 gr n, cel_but h2 gr n, cel_but h3 gr n, cel_but h4 gr n, h5⟩
theorem aT_nb : Nb aT := fun w w' r g p x ⟨h1, h2, o1, o2, ⟨a, c, h3, v3⟩, ⟨a', c', h4, v4⟩⟩ gr s => by
  have n : g ≠ r := fun e => (s p).1 x.1 (by subst e; exact h1)
  exact ⟨cel_but h1 gr n, cel_but h2 gr n, o1, o2, ⟨a, c, cel_but h3 gr n, v3.but aI_nb gr s⟩, ⟨a', c', cel_but h4 gr n, v4.but aI_nb gr s⟩⟩
theorem Pw.but {w w' : World} {r : Nat} {v : Value} {p : PP} (h : Pw w v p) (b : w.grownBy w' (some r)) (s : Ns w r) : Pw w' v p := by
  obtain ⟨a0, m0, c0, a1, m1, c1, a2, m2, c2, a3, m3, c3, a4, m4, c4, a5, m5, c5, a6, m6, c6, e, h0, h1, h2, h3, h4, h5, h6⟩ := h.ex
  exact ⟨a0, m0, c0, a1, m1, c1, a2, m2, c2, a3, m3, c3, a4, m4, c4, a5, m5, c5, a6, m6, c6, e, h0.but aC_nb b s, h1.but aT_nb b s, h2.but aI_nb b s, h3.but aI_nb b s, h4.but aI_nb b s, h5.but aS_nb b s, h6.but aN_nb b s⟩
theorem bl_but {w w1 w2 : World} {p : Nat} (b : Below w.heap.size w w1) (hp : w.heap.size ≤ p) (g : w1.grownBy w2 (some p)) : Below w.heap.size w w2 :=
  b.grown g b.size (fun k e => by injection e with e; omega)
theorem bl_set {w w1 : World} {r i : Nat} (b : Below w.heap.size w w1) (hr : w.heap.size ≤ r) (v : Value) : Below w.heap.size w (w1.setCell ⟨r, i, none⟩ v) := bl_but b hr (grownBy_setCell w1 r i v)
set_option maxRecDepth 100000 in
set_option maxHeartbeats 8000000 in
theorem code_Decode_any (w : World) (a : Option Addr) (n c : Nat) (bs : List Int) (h : By w a n c bs) (hn : n ≤ 700000) (hT : Tab w) :
    Calls Tryd.prog 8 #[.slice a n c] w fun e w' => DcP w w' e bs := by
  have X0 := hid (Bx.new w #[.slice none 0 0, .slice none 0 0, .slice none 0 0, .slice none 0 0, .slice none 0 0, .slice none 0 0, .slice none 0 0] 29 (by decide))
  have B0 := hid (allocB w (.cells #[.slice none 0 0, .slice none 0 0, .slice none 0 0, .slice none 0 0, .slice none 0 0, .slice none 0 0, .slice none 0 0] 29))
  have Y0 := hid (h.below B0.out)
  have T0 := hid (hT.next B0.out)
  have hl := h.len
  obtain ⟨r, hr⟩ : ∃ r, r = w.heap.size := ⟨_, rfl⟩
  have WR := hid hr
  rw [← hr] at X0
  by_cases q : n < 8
  · have q' : (n : Int) < 8 := by omega
    have E := hid (decP_no (bs := bs) (by rw [hl]; omega))
    clear h hn hT hr hl
    go_enter Tryd.func8, Tryd.ntmps8
    go_upto_region 1 with fail
    rw [← WR.out]
    generalize World.alloc w _ = w0 at *
    have d0 := X0.out.cell 0 _ rfl
    have d1 := X0.out.cell 1 _ rfl
    have d2 := X0.out.cell 2 _ rfl
    have d3 := X0.out.cell 3 _ rfl
    have d4 := X0.out.cell 4 _ rfl
    have d5 := X0.out.cell 5 _ rfl
    have d6 := X0.out.cell 6 _ rfl
    have fz := X0.out.fz
    have S := hid (set7 (.slice none 0 0) (.slice none 0 0) (.slice none 0 0) (.slice none 0 0) (.slice none 0 0) (.slice none 0 0) (.slice none 0 0) d0 d1 d2 d3 d4 d5 d6)
    have BF := hid (bl_but B0.out (Nat.le_of_eq WR.out.symm) (grown7 w0 r (.slice none 0 0) (.slice none 0 0) (.slice none 0 0) (.slice none 0 0) (.slice none 0 0) (.slice none 0 0) (.slice none 0 0)))
    go_wp2_with fail
    clear fz d0 d1 d2 d3 d4 d5 d6
    generalize (((((((w0.setCell ⟨r, 0, none⟩ (.slice none 0 0)).setCell ⟨r, 1, none⟩ (.slice none 0 0)).setCell ⟨r, 2, none⟩ (.slice none 0 0)).setCell ⟨r, 3, none⟩ (.slice none 0 0)).setCell ⟨r, 4, none⟩ (.slice none 0 0)).setCell ⟨r, 5, none⟩ (.slice none 0 0)).setCell ⟨r, 6, none⟩ (.slice none 0 0)) = wf at *
    obtain ⟨f0, f1, f2, f3, f4, f5, f6⟩ := S.out
    try simp only [Exit.inBlock, Exit.then]
    refine bodyPost_ret (by simp [results, Tryd.results8, go_sem, f0, f1, f2, f3, f4, f5, f6]; try rfl) rfl ?_
    refine ⟨_, by rw [E.out.2], ?_, BF.out⟩
    rw [E.out.1]
    exact Pw.zero _
  · obtain ⟨k, rfl⟩ : ∃ k, n = k + 8 := ⟨n - 8, by omega⟩
    have q' : ¬ ((k : Int) + 8 < 8) := by omega
    obtain ⟨g, o, h1, -⟩ := h.cell
    obtain rfl := h1 (by omega)
    have hf := h.fits
    have hm := h.max
    have YM := hid (show By _ (some ⟨g, o + 4, none⟩) k (c - 4) (mid bs) from by
      have y := (Y0.out.take (k := k + 4) (by omega)).drop (k := 4) (o' := o + 4) (by omega) (fun _ => rfl)
      rw [show k + 4 - 4 = k by omega] at y
      unfold mid
      rw [hl, show k + 8 - 4 = k + 4 by omega]
      exact y)
    have HN := hid hn
    have HB := hid h.ok
    have HL := hid hl
    clear h h1 hn hT hr hl
    go_enter Tryd.func8, Tryd.ntmps8
    go_upto_region 1 with fail
    rw [← WR.out]
    generalize World.alloc w _ = w0 at *
    have sub4 : (k : Int) + 8 - 4 = (k : Int) + 4 := by omega
    have kb : k ≤ 700000 := by have := HN.out; omega
    have c4 : ¬ c = 4 := by omega
    have w4 : wrap64 ((k : Int) + 4) = (k : Int) + 4 := by unfold wrap64; omega
    have k4 : ((k : Int) + 4).toNat = k + 4 := by omega
    have K1 := hid (Read_any (some ⟨g, o + 4, none⟩) k (c - 4) (mid bs) w0 YM.out (by have := HN.out; omega) (by have := B0.out.size; have := (Array.getElem?_eq_some_iff.1 X0.out.at_).1; omega))
    go_wp2_with fail
    (with_reducible refine Calls.mono K1.out ?_)
    rintro e w1 ⟨p, q2, rfl, rd1, hp1, hp2, hq2, b1⟩
    clear sub4 kb c4 w4 k4 K1 YM
    have K2 := hid (code_readProgram_any (s := (mid bs, false)) rd1 (by have h1 := mid_len bs; have h2 := HL.out; have h3 := HN.out; simp only; omega) hq2)
    have P1 := hid hp1
    have B1 := hid b1
    clear rd1 hp1 hp2 hq2 b1
    go_wp2_with fail
    (with_reducible refine Calls.mono K2.out ?_)
    rintro e w2 ⟨v2, rfl, pw2, rp2⟩
    have B2 := hid (bl_but B1.out P1.out rp2.fr)
    have V2 := hid (show Pw w2 v2 (rdP bs) from pw2)
    obtain ⟨a0, m0, c0, a1, m1, c1, a2, m2, c2, a3, m3, c3, a4, m4, c4, a5, m5, c5, a6, m6, c6, ev, -⟩ := pw2.ex
    subst ev
    clear pw2 rp2 K2
    have X3 := hid (Bx.new w2 #[.slice a0 m0 c0, .slice a1 m1 c1, .slice a2 m2 c2, .slice a3 m3 c3, .slice a4 m4 c4, .slice a5 m5 c5, .slice a6 m6 c6] 29 (by decide))
    have A3 := hid (allocB w2 (.cells #[.slice a0 m0 c0, .slice a1 m1 c1, .slice a2 m2 c2, .slice a3 m3 c3, .slice a4 m4 c4, .slice a5 m5 c5, .slice a6 m6 c6] 29))
    have B3 := hid (nextB B2.out A3.out)
    have V3 := hid (V2.out.next A3.out)
    go_upto_region 4 with fail
    generalize World.alloc w2 _ = w3 at *
    generalize w2.heap.size = bx at *
    have T3 := hid (T0.out.next B3.out)
    have K3 := hid (code_Encode_any w3 _ (rdP bs) V3.out (rdP_len HB.out (by have := HL.out; have := HN.out; omega)) T3.out)
    have x0 := X3.out.cell 0 _ rfl
    have x1 := X3.out.cell 1 _ rfl
    have x2 := X3.out.cell 2 _ rfl
    have x3 := X3.out.cell 3 _ rfl
    have x4 := X3.out.cell 4 _ rfl
    have x5 := X3.out.cell 5 _ rfl
    have x6 := X3.out.cell 6 _ rfl
    go_wp2_with fail
    (with_reducible refine Calls.mono K3.out ?_)
    rintro e w4 ⟨⟨v4, rfl, o4⟩, b4⟩
    obtain ⟨ae, ne, ce, rfl, ye⟩ : ∃ a n c, v4 = .slice a n c ∧ By w4 a n c (bytesOf (rdP bs)) := by
      obtain ⟨a, c, e, y, -, -⟩ := o4.by
      exact ⟨a, _, c, e, y⟩
    have B4 := hid (nextB B3.out b4)
    have X4 := hid (X3.out.next b4)
    have V4 := hid (V3.out.next b4)
    have R4 := hid (X0.out.next B4.out)
    have KE := hid (bytesEqual_any w4 ye (Y0.out.below B4.out))
    clear o4 b4 ye K3 X3 A3 V2 V3 B2 B3 B1 x0 x1 x2 x3 x4 x5 x6
    have BW := hid (nextB B0.out B4.out)
    have RW := hid (show w.heap.size ≤ r from Nat.le_of_eq WR.out.symm)
    by_cases qe : bytesOf (rdP bs) = bs
    · have E := hid (decP_yes (by rw [HL.out]; omega) qe)
      have DE : decide (bytesOf (rdP bs) = bs) = true := by simp [qe]
      rw [DE] at KE
      clear qe DE
      have x0 := X4.out.cell 0 _ rfl
      have x1 := X4.out.cell 1 _ rfl
      have x2 := X4.out.cell 2 _ rfl
      have x3 := X4.out.cell 3 _ rfl
      have x4 := X4.out.cell 4 _ rfl
      have x5 := X4.out.cell 5 _ rfl
      have x6 := X4.out.cell 6 _ rfl
      have fz := R4.out.fz
      have r0 := R4.out.cell 0 _ rfl
      have r1 := R4.out.cell 1 _ rfl
      have r2 := R4.out.cell 2 _ rfl
      have r3 := R4.out.cell 3 _ rfl
      have r4 := R4.out.cell 4 _ rfl
      have r5 := R4.out.cell 5 _ rfl
      have r6 := R4.out.cell 6 _ rfl
      have S := hid (set7 (.slice a0 m0 c0) (.slice a1 m1 c1) (.slice a2 m2 c2) (.slice a3 m3 c3) (.slice a4 m4 c4) (.slice a5 m5 c5) (.slice a6 m6 c6) r0 r1 r2 r3 r4 r5 r6)
      have G7 := hid (grown7 w4 r (.slice a0 m0 c0) (.slice a1 m1 c1) (.slice a2 m2 c2) (.slice a3 m3 c3) (.slice a4 m4 c4) (.slice a5 m5 c5) (.slice a6 m6 c6))
      have BF := hid (bl_but BW.out RW.out G7.out)
      have VF := hid (V4.out.but G7.out (ns_zero R4.out))
      go_wp2_with (go_at_call 21; (with_reducible refine Calls.mono KE.out ?_); rintro e w5 ⟨rfl, rfl⟩)
      clear fz
      generalize (((((((w4.setCell ⟨r, 0, none⟩ (.slice a0 m0 c0)).setCell ⟨r, 1, none⟩ (.slice a1 m1 c1)).setCell ⟨r, 2, none⟩ (.slice a2 m2 c2)).setCell ⟨r, 3, none⟩ (.slice a3 m3 c3)).setCell ⟨r, 4, none⟩ (.slice a4 m4 c4)).setCell ⟨r, 5, none⟩ (.slice a5 m5 c5)).setCell ⟨r, 6, none⟩ (.slice a6 m6 c6)) = wf at *
      obtain ⟨f0, f1, f2, f3, f4, f5, f6⟩ := S.out
      try simp only [Exit.inBlock, Exit.then]
      refine bodyPost_ret (by simp [results, Tryd.results8, go_sem, f0, f1, f2, f3, f4, f5, f6]; try rfl) rfl ?_
      refine ⟨_, by rw [E.out.2], ?_, BF.out⟩
      rw [E.out.1]
      exact VF.out
    · have E := hid (decP_no (bs := bs) (fun h => qe h.2))
      have DE : decide (bytesOf (rdP bs) = bs) = false := by simp [qe]
      rw [DE] at KE
      clear qe DE
      have r0 := R4.out.cell 0 _ rfl
      have r1 := R4.out.cell 1 _ rfl
      have r2 := R4.out.cell 2 _ rfl
      have r3 := R4.out.cell 3 _ rfl
      have r4 := R4.out.cell 4 _ rfl
      have r5 := R4.out.cell 5 _ rfl
      have r6 := R4.out.cell 6 _ rfl
      have fz := R4.out.fz
      have S := hid (set7 (.slice none 0 0) (.slice none 0 0) (.slice none 0 0) (.slice none 0 0) (.slice none 0 0) (.slice none 0 0) (.slice none 0 0) r0 r1 r2 r3 r4 r5 r6)
      have BF := hid (bl_but BW.out RW.out (grown7 w4 r (.slice none 0 0) (.slice none 0 0) (.slice none 0 0) (.slice none 0 0) (.slice none 0 0) (.slice none 0 0) (.slice none 0 0)))
      go_wp2_with (go_at_call 21; (with_reducible refine Calls.mono KE.out ?_); rintro e w5 ⟨rfl, rfl⟩)
      clear fz
      generalize (((((((w4.setCell ⟨r, 0, none⟩ (.slice none 0 0)).setCell ⟨r, 1, none⟩ (.slice none 0 0)).setCell ⟨r, 2, none⟩ (.slice none 0 0)).setCell ⟨r, 3, none⟩ (.slice none 0 0)).setCell ⟨r, 4, none⟩ (.slice none 0 0)).setCell ⟨r, 5, none⟩ (.slice none 0 0)).setCell ⟨r, 6, none⟩ (.slice none 0 0)) = wf at *
      obtain ⟨f0, f1, f2, f3, f4, f5, f6⟩ := S.out
      try simp only [Exit.inBlock, Exit.then]
      refine bodyPost_ret (by simp [results, Tryd.results8, go_sem, f0, f1, f2, f3, f4, f5, f6]; try rfl) rfl ?_
      refine ⟨_, by rw [E.out.2], ?_, BF.out⟩
      rw [E.out.1]
      exact Pw.zero _

end Go.Proofs.YtcmifdnndckpcaaDoor
