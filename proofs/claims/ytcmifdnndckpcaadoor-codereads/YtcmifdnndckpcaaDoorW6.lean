/- The walks over package pack's Reader, on: a Reader in memory; U, I, S, Left, Bad. -/
import Derived.Test.YtcmifdnndckpcaaDoorW5
namespace Go.Proofs.YtcmifdnndckpcaaDoor
open Go.RowKit
set_option linter.unusedVariables false
set_option linter.unusedSimpArgs false

theorem grownBy_trans {a b c : World} {r : Option Nat} (h : a.grownBy b r) (k : b.grownBy c r) : a.grownBy c r :=
  ⟨k.os.trans h.os, k.tape.trans h.tape, k.output.trans h.output, Nat.le_trans h.size k.size, fun i hi hne => (k.block i (Nat.lt_of_lt_of_le hi h.size) hne).trans (h.block i hi hne)⟩
theorem grownBy_setCell (w : World) (p o : Nat) (v : Value) : w.grownBy (w.setCell ⟨p, o, none⟩ v) (some p) :=
  ⟨rfl, rfl, rfl, by simp, fun k _ hk => Below.heap_setCell w ⟨p, o, none⟩ v k (fun e => hk (by rw [e]))⟩

/-- A Reader in memory, at block p, its bytes in block q. -/
structure Rd (w : World) (p q : Nat) (bad : Bool) (bs : List Int) : Prop where
  ex : ∃ a n cap, w.cell? ⟨p, 0, none⟩ = some (.slice a n cap) ∧ By w a n cap bs ∧ (a = none ∨ ∃ o, a = some ⟨q, o, none⟩)
  bad : w.cell? ⟨p, 1, none⟩ = some (.bool bad)
  fz : ∀ o, w.frozen? ⟨p, o, none⟩ = false
  ne : p ≠ q
theorem Rd.lt {w : World} {p q : Nat} {bad : Bool} {bs : List Int} (h : Rd w p q bad bs) : p < w.heap.size := World.block_lt_of_cell? _ _ h.bad
theorem Rd.grown {w w' : World} {p q r : Nat} {bad : Bool} {bs : List Int} (h : Rd w p q bad bs) (hg : w.grownBy w' (some r)) (h1 : r ≠ p) (h2 : r ≠ q) : Rd w' p q bad bs := by
  have hb : w'.heap[p]? = w.heap[p]? := hg.block p h.lt (fun e => h1 (by simpa using e.symm))
  obtain ⟨a, n, cap, c0, by0, hh⟩ := h.ex
  refine ⟨⟨a, n, cap, ?_, ?_, hh⟩, ?_, fun o => ?_, h.ne⟩
  · rw [World.cell?_of_block (w := w) (a := ⟨p, 0, none⟩) hb]; exact c0
  · refine by0.grown hg (fun _ x hx => ?_)
    rcases hh with rfl | ⟨o, rfl⟩
    · simp at hx
    · simp at hx; subst hx; intro e; exact h2 (by simpa using e.symm)
  · rw [World.cell?_of_block (w := w) (a := ⟨p, 1, none⟩) hb]; exact h.bad
  · rw [World.frozen?_of_block (w := w) (a := ⟨p, o, none⟩) hb]; exact h.fz o
theorem Rd.below {w w' : World} {p q : Nat} {bad : Bool} {bs : List Int} (h : Rd w p q bad bs) (hbl : Below w.heap.size w w') : Rd w' p q bad bs := by
  have hb : w'.heap[p]? = w.heap[p]? := hbl.block p h.lt
  obtain ⟨a, n, cap, c0, by0, hh⟩ := h.ex
  refine ⟨⟨a, n, cap, ?_, by0.below hbl, hh⟩, ?_, fun o => ?_, h.ne⟩
  · rw [World.cell?_of_block (w := w) (a := ⟨p, 0, none⟩) hb]; exact c0
  · rw [World.cell?_of_block (w := w) (a := ⟨p, 1, none⟩) hb]; exact h.bad
  · rw [World.frozen?_of_block (w := w) (a := ⟨p, o, none⟩) hb]; exact h.fz o

/-- It is spoilt. -/
theorem Rd.spoilt {w : World} {p q : Nat} {bad : Bool} {bs : List Int} (h : Rd w p q bad bs) : Rd ((w.setCell ⟨p, 0, none⟩ (.slice none 0 0)).setCell ⟨p, 1, none⟩ (.bool true)) p q true [] := by
  obtain ⟨a, n, cap, c0, by0, hh⟩ := h.ex
  have n1 : (⟨p, 0, none⟩ : Addr) ≠ ⟨p, 1, none⟩ := fun k => by injection k with _ k; cases k
  have n2 : (⟨p, 1, none⟩ : Addr) ≠ ⟨p, 0, none⟩ := n1.symm
  refine ⟨⟨none, 0, 0, ?_, By.empty _, Or.inl rfl⟩, ?_, fun o => by simpa using h.fz o, h.ne⟩
  · first | (rw [World.cell?_setCell_other _ _ _ _ n1]; exact World.cell?_setCell_same _ _ _ c0) | (rw [World.cell?_setCell_other _ _ _ _ n2]; exact World.cell?_setCell_same _ _ _ c0)
  · have e : (w.setCell ⟨p, 0, none⟩ (.slice none 0 0)).cell? ⟨p, 1, none⟩ = some (.bool bad) := by first | exact (World.cell?_setCell_other _ _ _ _ n1).trans h.bad | exact (World.cell?_setCell_other _ _ _ _ n2).trans h.bad
    exact World.cell?_setCell_same _ _ _ e
/-- It reads on. -/
theorem Rd.on {w : World} {p q : Nat} {bad : Bool} {bs : List Int} (h : Rd w p q bad bs) {a' : Option Addr} {n' cap' : Nat} {bs' : List Int} (hb : By w a' n' cap' bs') (hh : a' = none ∨ ∃ o, a' = some ⟨q, o, none⟩) : Rd (w.setCell ⟨p, 0, none⟩ (.slice a' n' cap')) p q bad bs' := by
  obtain ⟨a, n, cap, c0, by0, _⟩ := h.ex
  have n1 : (⟨p, 0, none⟩ : Addr) ≠ ⟨p, 1, none⟩ := fun k => by injection k with _ k; cases k
  have n2 : (⟨p, 1, none⟩ : Addr) ≠ ⟨p, 0, none⟩ := n1.symm
  refine ⟨⟨a', n', cap', World.cell?_setCell_same _ _ _ c0, ?_, hh⟩, ?_, fun o => by simpa using h.fz o, h.ne⟩
  · refine hb.grown (grownBy_setCell w p 0 _) (fun _ x hx => ?_)
    rcases hh with rfl | ⟨o, rfl⟩
    · simp at hx
    · simp at hx; subst hx; intro e; exact h.ne (by simpa using e.symm)
  · first | exact (World.cell?_setCell_other _ _ _ _ n1).trans h.bad | exact (World.cell?_setCell_other _ _ _ _ n2).trans h.bad

set_option maxHeartbeats 1000000 in
theorem spoil_any (p q : Nat) (bad : Bool) (bs : List Int) (w : World) (h : Rd w p q bad bs) :
    Calls Tryd.prog 75 #[.pointer (some ⟨p, 0, none⟩)] w fun e w' => e = .returned (.tuple #[]) ∧ Rd w' p q true [] ∧ w.grownBy w' (some p) := by
  obtain ⟨a, n, cap, c0, by0, hh⟩ := h.ex
  have c1 := h.bad
  have f := h.fz
  have H : Hid _ := h.spoilt
  have G : Hid _ := grownBy_trans (grownBy_setCell w p 0 (.slice none 0 0)) (grownBy_setCell _ p 1 (.bool true))
  clear h by0 hh
  go_enter Tryd.func75, Tryd.ntmps75
  go_wp2
  go_returns
  exact ⟨rfl, H.out, G.out⟩

/-- Bytes cut at their begin. -/
theorem By.drop {w : World} {b o n cap : Nat} {bs : List Int} (h : By w (some ⟨b, o, none⟩) n cap bs) {k : Nat} (hk : k ≤ n) {o' : Nat} (ho : k < n → o' = o + k) : By w (some ⟨b, o', none⟩) (n - k) (cap - k) (bs.drop k) := by
  obtain ⟨b', o0, h1, h2⟩ := h.cell
  have hl := h.len
  have hf := h.fits
  have hm := h.max
  refine ⟨by simp; omega, by omega, by omega, fun e => by simp at e, ⟨b, o', fun _ => rfl, fun i hi => ?_⟩, h.ok.drop k⟩
  have e := h1 (by omega)
  simp at e
  obtain ⟨rfl, rfl⟩ := e
  rw [ho (by omega), Nat.add_assoc, h2 (k + i) (by omega)]
  simp [List.getD]

/-- What cutting stores. -/
theorem Rd.cut {w : World} {p q : Nat} {bad : Bool} {bs : List Int} (h : Rd w p q bad bs) {o n cap : Nat} (hb : By w (some ⟨q, o, none⟩) n cap bs) {k : Nat} (hk : k ≤ n) :
    (cap = k → Rd (w.setCell ⟨p, 0, none⟩ (.slice (some ⟨q, o, none⟩) (n - k) 0)) p q bad (bs.drop k)) ∧ Rd (w.setCell ⟨p, 0, none⟩ (.slice (some ⟨q, o + k, none⟩) (n - k) (cap - k))) p q bad (bs.drop k) := by
  refine ⟨fun e => ?_, h.on (hb.drop hk (fun _ => rfl)) (Or.inr ⟨_, rfl⟩)⟩
  have hf := hb.fits
  have := h.on (hb.drop hk (o' := o) (fun _ => by omega)) (Or.inr ⟨_, rfl⟩)
  rw [show cap - k = 0 by omega] at this
  exact this

set_option maxHeartbeats 1000000 in
theorem RU_any (p q : Nat) (bad : Bool) (bs : List Int) (w : World) (h : Rd w p q bad bs) (hn : bs.length ≤ 20000000) :
    Calls Tryd.prog 70 #[.pointer (some ⟨p, 0, none⟩)] w fun e w' => e = .returned (.int .u64 (rU bs : Nat)) ∧ Rd w' p q (bad || rB bs) (rR bs) ∧ w.grownBy w' (some p) := by
  obtain ⟨a, n, cap, c0, by0, hh⟩ := h.ex
  have hl := by0.len
  have K : Hid _ := first_any a n cap bs w by0 (by omega) (by rcases hh with r | ⟨o, r⟩; exact Or.inl r; exact Or.inr ⟨q, o, r⟩)
  have H : Hid _ := h
  cases d : dec 0 0 bs with
  | none =>
    obtain ⟨e1, e2, e3⟩ := rU_none d
    rw [e1, e2, e3, Bool.or_true]
    rw [firstV_none d] at K
    have f := h.fz
    clear h by0 hh d e1 e2 e3
    go_enter Tryd.func70, Tryd.ntmps70
    go_wp2_with (first | (go_at_call 80; refine Calls.mono K.out ?_; rintro e w1 ⟨rfl, rfl⟩) | (go_at_call 75; refine (spoil_any p q bad bs w H.out).mono ?_; rintro e w2 ⟨rfl, r2, g2⟩))
    go_ret
    exact ⟨rfl, r2, g2⟩
  | some x =>
    obtain ⟨u, k⟩ := x
    obtain ⟨e1, e2, e3⟩ := rU_some d
    obtain ⟨u64, k1, kn⟩ := dec_ok bs 0 0 u k by0.ok (by decide) d
    rw [e1, e2, e3, Bool.or_false]
    rw [firstV_some d] at K
    have f := h.fz
    have hf := by0.fits
    have kn' : k ≤ n := by omega
    rcases hh with rfl | ⟨o, rfl⟩
    · have := by0.none_nil; omega
    · have k0 : ((k : Int) == 0) = false := beq_eq_false_iff_ne.2 (by omega)
      have RR : Hid _ := h.cut by0 kn'
      clear h by0 d e1 e2 e3 hl
      go_enter Tryd.func70, Tryd.ntmps70
      go_wp2_with (first | (go_at_call 80; refine Calls.mono K.out ?_; rintro e w1 ⟨rfl, rfl⟩))
      · go_ret
        exact ⟨rfl, RR.out.1 (by assumption), grownBy_setCell _ _ _ _⟩
      · go_ret
        exact ⟨rfl, RR.out.2, grownBy_setCell _ _ _ _⟩

set_option maxHeartbeats 1000000 in
theorem RI_any (p q : Nat) (bad : Bool) (bs : List Int) (w : World) (h : Rd w p q bad bs) (hn : bs.length ≤ 20000000) :
    Calls Tryd.prog 72 #[.pointer (some ⟨p, 0, none⟩)] w fun e w' => e = .returned (.int .i64 (zag (rU bs))) ∧ Rd w' p q (bad || rB bs) (rR bs) ∧ w.grownBy w' (some p) := by
  obtain ⟨a, n, cap, c0, by0, hh⟩ := h.ex
  have lt := rU_lt by0.ok
  have K : Hid _ := RU_any p q bad bs w h hn
  clear c0 by0 hh h
  generalize hu : rU bs = u at *
  clear hu
  obtain ⟨m, hm⟩ : ∃ m : Nat, m = u / 2 := ⟨_, rfl⟩
  have s1 : (u : Int) / 2 = (m : Int) := by omega
  have m63 : m < 9223372036854775808 := by omega
  by_cases c : u % 2 = 1
  · have s2 : (u : Int) % 2 = 1 := by omega
    have Z : Hid (zag u = -(m : Int) - 1) := by show zag u = _; unfold zag; rw [if_pos c, hm]
    clear hm c
    go_enter Tryd.func72, Tryd.ntmps72
    go_wp2_with (first | (go_at_call 70; refine Calls.mono K.out ?_; rintro e w1 ⟨rfl, r1, g1⟩))
    go_ret
    exact ⟨retV (by rw [Z.out]; rfl), r1, g1⟩
  · have s2 : (u : Int) % 2 = 0 := by omega
    have Z : Hid (zag u = (m : Int)) := by show zag u = _; unfold zag; rw [if_neg c, hm]
    clear hm c
    go_enter Tryd.func72, Tryd.ntmps72
    go_wp2_with (first | (go_at_call 70; refine Calls.mono K.out ?_; rintro e w1 ⟨rfl, r1, g1⟩))
    go_ret
    exact ⟨retV (by rw [Z.out]; rfl), r1, g1⟩

theorem RBad_any (p q : Nat) (bad : Bool) (bs : List Int) (w : World) (h : Rd w p q bad bs) :
    Calls Tryd.prog 71 #[.pointer (some ⟨p, 0, none⟩)] w fun e w' => e = .returned (.bool bad) ∧ w = w' := by
  have c0 := h.bad
  clear h
  go_enter Tryd.func71, Tryd.ntmps71
  go_wp2
  go_ret
  exact ⟨rfl, rfl⟩

/-- Bytes cut at their end. -/
theorem By.take {w : World} {b o n cap : Nat} {bs : List Int} (h : By w (some ⟨b, o, none⟩) n cap bs) {k : Nat} (hk : k ≤ n) : By w (some ⟨b, o, none⟩) k cap (bs.take k) := by
  obtain ⟨b', o0, h1, h2⟩ := h.cell
  have hl := h.len
  have hf := h.fits
  refine ⟨by simp; omega, by omega, h.max, fun e => by simp at e, ⟨b, o, fun _ => rfl, fun i hi => ?_⟩, h.ok.take k⟩
  have e := h1 (by omega)
  simp at e
  obtain ⟨rfl, rfl⟩ := e
  rw [h2 i (by omega)]
  have : (bs.take k).getD i 0 = bs.getD i 0 := by simp [List.getD, hi]
  rw [this]
theorem retS {a b : ByteArray} (h : a = b) : Ending.returned (.string a) = .returned (.string b) := by rw [h]

set_option maxRecDepth 100000 in
set_option maxHeartbeats 1000000 in
theorem RS_any (p q : Nat) (bad : Bool) (bs : List Int) (w : World) (h : Rd w p q bad bs) (hn : bs.length ≤ 20000000) :
    Calls Tryd.prog 55 #[.pointer (some ⟨p, 0, none⟩)] w fun e w' => e = .returned (.string (strOfNums (tU bs))) ∧ Rd w' p q (bad || tB bs) (tR bs) ∧ w.grownBy w' (some p) := by
  obtain ⟨a, n, cap, c0, by0, hh⟩ := h.ex
  have lt := rU_lt by0.ok
  have rl := rR_len bs
  have K : Hid _ := RU_any p q bad bs w h hn
  clear c0 by0 hh h
  by_cases c : (rR bs).length < rU bs
  · obtain ⟨t1, t2, t3⟩ := tU_no c
    rw [t1, t2, t3, Bool.or_true]
    generalize rU bs = u at *
    clear t1 t2 t3
    go_enter Tryd.func55, Tryd.ntmps55
    go_wp2_with fail
    refine Calls.mono K.out ?_
    rintro e w1 ⟨rfl, r1, g1⟩
    obtain ⟨a1, n1, cap1, c1, by1, hh1⟩ := r1.ex
    have el := by1.len
    have c' : (n1 : Int) < (u : Int) := by omega
    have n64 : n1 ≤ 20000000 := by omega
    have R1 : Hid _ := r1
    have G1 : Hid _ := g1
    clear by1 hh1 el r1 g1 c rl K
    go_wp2_with (go_at_call 75; refine (spoil_any p q _ _ w1 R1.out).mono ?_; rintro e w2 ⟨rfl, r2, g2⟩)
    go_ret
    exact ⟨retS rfl, r2, grownBy_trans G1.out g2⟩
  · obtain ⟨t1, t2, t3⟩ := tU_yes c
    rw [t1, t2, t3]
    generalize hu : rU bs = u at *
    clear t1 t2 t3 hu
    go_enter Tryd.func55, Tryd.ntmps55
    go_wp2_with fail
    refine Calls.mono K.out ?_
    rintro e w1 ⟨rfl, r1, g1⟩
    obtain ⟨a1, n1, cap1, c1, by1, hh1⟩ := r1.ex
    have el := by1.len
    have hf1 := by1.fits
    have c' : ¬ (n1 : Int) < (u : Int) := by omega
    have n64 : n1 ≤ 20000000 := by omega
    have un : u ≤ n1 := by omega
    have fz := r1.fz
    have G1 : Hid _ := g1
    rcases hh1 with rfl | ⟨o, rfl⟩
    · obtain ⟨rfl, rfl, e0⟩ := by1.none_nil
      obtain rfl : u = 0 := by omega
      have X : Hid (Rd (w1.setCell ⟨p, 0, none⟩ (.slice none 0 0)) p q (bad || rB bs) ((rR bs).drop 0)) := r1.on (by simpa using by1) (Or.inl rfl)
      have S := by1.str
      have E0 : Hid ((rR bs).take 0 = rR bs) := by show (rR bs).take 0 = rR bs; rw [e0]; rfl
      generalize hs : strOfNums (rR bs) = s at *
      have HS : Hid _ := hs
      clear by1 el r1 g1 c rl K e0 hs
      go_wp2
      go_ret
      exact ⟨retS (by rw [E0.out]; exact HS.out.symm), X.out, grownBy_trans G1.out (grownBy_setCell _ _ _ _)⟩
    · have X : Hid _ := r1.cut by1 un
      have S := (by1.take un).str
      generalize hs : strOfNums ((rR bs).take u) = s at *
      have HS : Hid _ := hs
      clear by1 el r1 g1 c rl K hs
      go_wp2
      · go_ret
        exact ⟨retS HS.out.symm, X.out.1 (by assumption), grownBy_trans G1.out (grownBy_setCell _ _ _ _)⟩
      · go_ret
        exact ⟨retS HS.out.symm, X.out.2, grownBy_trans G1.out (grownBy_setCell _ _ _ _)⟩

end Go.Proofs.YtcmifdnndckpcaaDoor
