/- The walk over package page: middle. -/
import Derived.Test.YtfedcghkohfhlaaY1
import Derived.WalkSmall
namespace Go.Proofs.Ytfedcghkohfhlaa
open Go.RowKit
set_option linter.unusedVariables false
set_option linter.unusedSimpArgs false

/-- Sizes in memory, while they are only read. -/
structure MI (w : World) (b o n cap : Nat) (l : List Nat) (wr : World) : Prop where
  sl : Sl wr (some ⟨b, o, none⟩) n cap (iv l)
  bel : Below w.heap.size w wr
theorem MI.next {w : World} {b o n cap : Nat} {l : List Nat} {wr w2 : World} (h : MI w b o n cap l wr) (k : Below wr.heap.size wr w2) : MI w b o n cap l w2 := ⟨h.sl.below k, nextB h.bel k⟩

set_option maxRecDepth 100000 in
set_option maxHeartbeats 1000000 in
theorem middle_any (b o n cap : Nat) (l : List Nat) (w : World) (h : Sl w (some ⟨b, o, none⟩) n cap (iv l)) (h2 : 2 ≤ n) (hn : n ≤ 100000) (hs : sumL l ≤ 1000000) :
    Calls Try.prog 57 #[.slice (some ⟨b, o, none⟩) n cap] w fun e w' => e = .returned (.int .i64 (mid l : Nat)) ∧ Below w.heap.size w w' := by
  have hl : l.length = n := by rw [← iv_len]; exact h.len
  have hf := h.fits
  have hn' : (n : Int) ≤ 100000 := by omega
  obtain ⟨t, ht⟩ : ∃ t : Nat, t = n / 2 := ⟨_, rfl⟩
  have ht1 : (n : Int) / 2 = (t : Int) := by omega
  have tb : 1 ≤ t ∧ t < n := by omega
  obtain ⟨O, CF, hO⟩ := cut_from Try.underlying83 intInfo b o n cap t (t : Nat) rfl (by omega) hf
  obtain ⟨m2, hm2⟩ : ∃ m2, m2 = n - t := ⟨_, rfl⟩
  obtain ⟨c2, hc2⟩ : ∃ c2, c2 = cap - t := ⟨_, rfl⟩
  rw [← hm2, ← hc2] at CF
  have CU := cut_upto Try.underlying83 intInfo b o n cap t (t : Nat) rfl (by omega)
  have S1 : Hid (∀ k, Calls Try.prog 69 #[.slice (some ⟨b, o, none⟩) t cap] (w.drewN k) fun e w' => e = .returned (.int .i64 (sumL (l.take t) : Nat)) ∧ w' = w.drewN k) := fun k => by
    have q := (h.below (drewB w k)).take (k := t) (by omega)
    rw [iv_take] at q
    exact (sum_any b o t cap (l.take t) _ q (by omega) (by have := sumL_split l t; omega)).mono fun e w' ⟨x, y⟩ => ⟨x, y.symm⟩
  have S2 : Hid (∀ k, Calls Try.prog 69 #[.slice (some ⟨b, O, none⟩) m2 c2] (w.drewN k) fun e w' => e = .returned (.int .i64 (sumL (l.drop t) : Nat)) ∧ w' = w.drewN k) := fun k => by
    rw [hm2, hc2]
    have q := (h.below (drewB w k)).drop (k := t) (by omega) hO
    rw [iv_drop] at q
    exact (sum_any b O (n - t) (cap - t) (l.drop t) _ q (by omega) (by have := sumL_split l t; omega)).mono fun e w' ⟨x, y⟩ => ⟨x, y.symm⟩
  have HL : Hid _ := hl
  have HM : Hid _ := h
  have TOP : Hid (top l = upT (cS l) (n - t) t) := by show _ = _; unfold top; rw [hl, ht]
  have HT : Hid _ := And.intro ht (And.intro hm2 hc2)
  clear ht h hl hO hm2 hc2
  go_enter Try.func57, Try.ntmps57
  go_upto_region 2 with fail
  obtain ⟨x1, hx1⟩ : ∃ x1, x1 = sumL (l.take t) := ⟨_, rfl⟩
  obtain ⟨x2, hx2⟩ : ∃ x2, x2 = sumL (l.drop t) := ⟨_, rfl⟩
  rw [← hx1] at S1
  rw [← hx2] at S2
  have HX : Hid _ := And.intro hx1 hx2
  clear hx1 hx2
  go_quiet (first | (go_at_call 69; with_reducible exact Calls.quiet_of_same (S1.out _)) | (go_at_call 69; with_reducible exact Calls.quiet_of_same (S2.out _)))
  have M0 : Hid (MI w b o n cap l (w.drewN nq)) := ⟨HM.out.below (drewB w nq), drewB w nq⟩
  generalize w.drewN nq = w9 at *
  clear S1 S2 CF CU
  go_wp2_with fail
  go_loopg [3, 4, 5] (n - t) (fun g av fv sv' wr => ∃ a f s : Nat, a < n ∧ 1 ≤ a ∧ g = n - a ∧ av = .int .i64 (a : Nat) ∧ fv = .int .i64 (f : Nat) ∧ sv' = .int .i64 (s : Nat) ∧ f ≤ 1000000 ∧ s ≤ 1000000 ∧ Hid (f = sumL (l.take a)) ∧ Hid (s = sumL (l.drop a)) ∧ Hid (upT (cS l) (n - t) t = upT (cS l) (n - a) a) ∧ Hid (MI w b o n cap l wr))
  case atStart =>
    have q := HX.out
    have := sumL_split l t
    exact ⟨t, x1, x2, tb.2, tb.1, rfl, rfl, rfl, rfl, by omega, by omega, q.1, q.2, rfl, M0.out⟩
  case round =>
    obtain ⟨a, f, s, ha, ha1, rfl, rfl, rfl, rfl, hf1, hs1, hF, hS, hU, hM⟩ := hrel
    have na : (n : Int) - (a : Int) = ((n - a : Nat) : Int) := by omega
    have NA : Hid _ := na
    have K : Hid _ := crowded_any (n - a) s wr (by omega) (by omega)
    have GB := sumL_at (l := l) a
    have SP : Hid (sumL (l.take (a + 1)) = f + l.getD a 0 ∧ s = l.getD a 0 + sumL (l.drop (a + 1))) := by
      have q := sumL_snoc (l := l) (k := a) (by have := HL.out; omega)
      have q1 := sumL_split l a
      have q2 := sumL_split l (a + 1)
      have := hF.out
      have := hS.out
      show _ ∧ _
      omega
    have SB : l.getD a 0 ≤ s ∧ f + l.getD a 0 ≤ 1000000 := by
      have := SP.out
      have := sumL_split l (a + 1)
      omega
    have a' : (a : Int) < (n : Int) := by omega
    obtain ⟨x, hx⟩ : ∃ x : Nat, x = l.getD a 0 := ⟨_, rfl⟩
    rw [← hx] at SP SB GB
    have HX2 : Hid _ := hx
    clear hx
    obtain ⟨m, hm⟩ : ∃ m : Nat, m = n - a := ⟨_, rfl⟩
    rw [← hm] at na K
    have CC : Hid (cS l a = crB m s) := by
      show _ = _
      unfold cS
      rw [HL.out, ← hm, hS.out]
    have HMm : Hid _ := hm
    clear hm
    cases cr : crB m s with
    | true =>
      rw [cr] at K
      have CT : Hid (cS l a = true) := by show _ = _; rw [CC.out]; exact cr
      have A2 : a + 1 < n := by have := cS_lt CT.out; have := HL.out; omega
      have CR : Hid _ := cr
      clear cr
      go_wp2_with fail
      refine Calls.mono K.out ?_
      rintro e w3 ⟨rfl, b3⟩
      have hM3 : Hid _ := hM.out.next b3
      have e3 := hM3.out.sl.int ha
      rw [← HX2.out] at e3
      go_wp2_with fail
      go_roundg (n - (a + 1))
      case measure => omega
      case rel =>
        have q := SP.out
        have q1 := sumL_split l (a + 1)
        refine ⟨a + 1, f + x, s - x, A2, by omega, rfl, by go_num, by go_num, by congr 1; omega, by omega, by omega, ?_, ?_, ?_, hM3.out⟩
        · show _ = _; omega
        · show _ = _; omega
        · show _ = _
          rw [hU.out]
          exact upT_step CT.out ha
    | false =>
      rw [cr] at K
      have CT : Hid (cS l a = false) := by show _ = _; rw [CC.out]; exact cr
      have TP : Hid (top l = a) := by show _ = _; rw [TOP.out, hU.out]; exact upT_stop CT.out
      have CR : Hid _ := cr
      clear cr SP SB GB HX2
      go_wp2_with fail
      refine Calls.mono K.out ?_
      rintro e w3 ⟨rfl, b3⟩
      have hM3 : Hid _ := hM.out.next b3
      go_wp2_with fail
      go_loopg [3, 4] a (fun g av fv wr => ∃ a2 f2 : Nat, a2 ≤ a ∧ 1 ≤ a2 ∧ g = a2 ∧ av = .int .i64 (a2 : Nat) ∧ fv = .int .i64 (f2 : Nat) ∧ f2 ≤ 1000000 ∧ Hid (f2 = sumL (l.take a2)) ∧ Hid (dnT (cF l) a = dnT (cF l) a2) ∧ Hid (MI w b o n cap l wr))
      case atStart => exact ⟨a, f, Nat.le_refl _, ha1, rfl, rfl, rfl, hf1, hF.out, rfl, hM3.out⟩
      case round =>
        clear K hM hM3 hF hS
        obtain ⟨a2, f2, h21, h22, rfl, rfl, rfl, hf2, hF, hD, hM⟩ := hrel
        have K : Hid _ := crowded_any gk f2 wr (by omega) (by omega)
        have CC : Hid (cF l gk = crB gk f2) := by
          show _ = _
          unfold cF
          rw [hF.out]
        cases cr : crB gk f2 with
        | true =>
          rw [cr] at K
          have CT : Hid (cF l gk = true) := by show _ = _; rw [CC.out]; exact cr
          have A2 : 1 < gk := cF_lt CT.out
          obtain ⟨d, hd'⟩ : ∃ d : Nat, d = gk - 1 := ⟨_, rfl⟩
          have dg : (gk : Int) - 1 = (d : Int) := by omega
          have dn : (d : Int) < (n : Int) := by omega
          have SP : Hid (f2 = sumL (l.take d) + l.getD d 0) := by
            have q := sumL_snoc (l := l) (k := d) (by have := HL.out; omega)
            have := hF.out
            rw [show d + 1 = gk by omega] at q
            show _ = _
            omega
          have DD : Hid (1 ≤ d ∧ d ≤ a ∧ d < gk ∧ d = gk - 1) := by show _ ∧ _; omega
          have CR : Hid _ := cr
          clear cr hd'
          obtain ⟨x, hx⟩ : ∃ x : Nat, x = l.getD d 0 := ⟨_, rfl⟩
          rw [← hx] at SP
          have SB : x ≤ f2 := by have := SP.out; omega
          have HX2 : Hid _ := hx
          clear hx
          go_wp2_with fail
          refine Calls.mono K.out ?_
          rintro e w4 ⟨rfl, b4⟩
          have hM4 : Hid _ := hM.out.next b4
          have e4 := hM4.out.sl.int (show d < n by omega)
          rw [← HX2.out] at e4
          go_wp2_with fail
          go_roundg d
          case measure => exact DD.out.2.2.1
          case rel =>
            have q := SP.out
            have qd := DD.out
            refine ⟨d, f2 - x, qd.2.1, qd.1, rfl, rfl, by congr 1; omega, by omega, ?_, ?_, hM4.out⟩
            · show _ = _; omega
            · show _ = _
              rw [hD.out, dnT_step CT.out (by omega), ← qd.2.2.2]
        | false =>
          rw [cr] at K
          have CT : Hid (cF l gk = false) := by show _ = _; rw [CC.out]; exact cr
          have MD : Hid (mid l = gk) := by show _ = _; unfold mid; rw [TP.out, hD.out]; exact dnT_stop CT.out
          have CR : Hid _ := cr
          clear cr
          go_wp2_with fail
          refine Calls.mono K.out ?_
          rintro e w4 ⟨rfl, b4⟩
          go_wp2
          go_ret
          exact ⟨retV (by rw [MD.out]; rfl), nextB hM.out.bel b4⟩

end Go.Proofs.Ytfedcghkohfhlaa
