/- The walks over package page: sum, crowded, middle. The walk over package page: middle. What stands in memory while a page is split. -/
import Derived.Test.YthdjghmipepppaaMd
import Derived.Test.YthdjghmipepppaaMb
import Derived.Deep.QuietTactic
import Derived.BigQuiet
import Derived.WalkSmall
import Derived.Test.YthdjghmipepppaaMe
namespace Go.Proofs.Ythdjghmipepppaa
open Go.RowKit
set_option linter.unusedVariables false
set_option linter.unusedSimpArgs false

theorem intInfo : (Try.prog.info? 3).map (fun i => (i.zero, i.size, i.bytes)) = some (some (.int .i64 0), 1, 8) := by kernel_rfl

set_option maxRecDepth 100000 in
set_option maxHeartbeats 4000000 in
theorem sum_any (b o n cap : Nat) (l : List Nat) (w : World) (h : Sl w (some ⟨b, o, none⟩) n cap (iv l)) (hn : n ≤ 100000) (hs : sumL l ≤ 1000000) :
    Calls Try.prog 100 #[.slice (some ⟨b, o, none⟩) n cap] w fun e w' => e = .returned (.int .i64 (sumL l : Nat)) ∧ w = w' := by
  have hl : l.length = n := by rw [← iv_len]; exact h.len
  have C : Hid (∀ i, i < n → w.cell? ⟨b, o + i, none⟩ = some (.int .i64 ((l.getD i 0 : Nat) : Int))) := fun i hi => h.int hi
  have HL : Hid _ := hl
  have hn' : (n : Int) ≤ 100000 := by omega
  clear h hl
  go_enter Try.func100, Try.ntmps100
  go_wp2_with fail
  go_loopg [3, 8] n (fun g sv' iv' wr => ∃ k s : Nat, k ≤ n ∧ g = n - k ∧ iv' = .int .i64 (k : Nat) ∧ sv' = .int .i64 (s : Nat) ∧ s ≤ 1000000 ∧ wr = w ∧ Hid (s = sumL (l.take k)))
  case atStart => exact ⟨0, 0, Nat.zero_le _, rfl, rfl, rfl, by omega, rfl, rfl⟩
  case round =>
    obtain ⟨k, s, hk, rfl, rfl, rfl, hs0, rfl, hS⟩ := hrel
    by_cases c : k < n
    · have c' : (k : Int) < (n : Int) := by omega
      have e1 := C.out k c
      have SN : Hid (sumL (l.take (k + 1)) = s + l.getD k 0) := by show _ = _; rw [sumL_snoc (by have := HL.out; omega), hS.out]
      have SB : s + l.getD k 0 ≤ 1000000 := by have := SN.out; have := sumL_split l (k + 1); omega
      generalize l.getD k 0 = x at *
      go_wp2
      go_roundg (n - (k + 1))
      case measure => omega
      case rel => exact ⟨k + 1, s + x, by omega, rfl, by go_num, by go_num, SB, rfl, SN.out.symm⟩
    · obtain rfl : n = k := by omega
      have E : Hid (s = sumL l) := by show _ = _; rw [hS.out, List.take_of_length_le (by have := HL.out; omega)]
      go_wp2
      go_ret
      exact ⟨retV (by rw [E.out]; rfl), rfl⟩

theorem crowded_any (items bytes : Nat) (w : World) (hi : items ≤ 100000) (hb : bytes ≤ 1000000) :
    Calls Try.prog 101 #[.int .i64 (items : Nat), .int .i64 (bytes : Nat)] w fun e w' => e = .returned (.bool (crB items bytes)) ∧ Below w.heap.size w w' := by
  by_cases c : 1 < items
  · have c' : (1 : Int) < (items : Int) := by omega
    have K : Hid _ := head_any true items w hi
    have hle : Hid (hd items ≤ 11) := hd_le hi
    by_cases c2 : 900 < hd items + bytes
    · have R : Hid (crB items bytes = true) := by show _ = _; unfold crB; rw [decide_eq_true c, decide_eq_true c2]; rfl
      go_enter Try.func101, Try.ntmps101
      go_wp2_with fail
      refine Calls.mono K.out ?_
      rintro e w1 ⟨⟨v1, rfl, o1⟩, b1⟩
      obtain ⟨a1, cap1, rfl, y1, _, _⟩ := o1.by
      obtain ⟨hl, hhl⟩ : ∃ hl, hl = (encH true items).length := ⟨_, rfl⟩
      rw [← hhl]
      have c2' : (900 : Int) < (hl : Int) + (bytes : Int) := by rw [hhl]; have : hd items = (encH true items).length := rfl; omega
      have hlb : hl ≤ 11 := by have := hle.out; rw [hhl]; exact this
      have HH : Hid _ := hhl
      clear hhl o1 y1
      go_wp2
      go_ret
      exact ⟨retV (by rw [R.out]; rfl), b1⟩
    · have R : Hid (crB items bytes = false) := by show _ = _; unfold crB; rw [decide_eq_false c2, Bool.and_false]
      go_enter Try.func101, Try.ntmps101
      go_wp2_with fail
      refine Calls.mono K.out ?_
      rintro e w1 ⟨⟨v1, rfl, o1⟩, b1⟩
      obtain ⟨a1, cap1, rfl, y1, _, _⟩ := o1.by
      obtain ⟨hl, hhl⟩ : ∃ hl, hl = (encH true items).length := ⟨_, rfl⟩
      rw [← hhl]
      have c2' : ¬ (900 : Int) < (hl : Int) + (bytes : Int) := by rw [hhl]; have : hd items = (encH true items).length := rfl; omega
      have hlb : hl ≤ 11 := by have := hle.out; rw [hhl]; exact this
      have HH : Hid _ := hhl
      clear hhl o1 y1
      go_wp2
      go_ret
      exact ⟨retV (by rw [R.out]; simp [c2']), b1⟩
  · have c' : ¬ (1 : Int) < (items : Int) := by omega
    have R : Hid (crB items bytes = false) := by show _ = _; unfold crB; rw [decide_eq_false c]; rfl
    go_enter Try.func101, Try.ntmps101
    go_wp2
    go_ret
    exact ⟨retV (by rw [R.out]; rfl), Below.refl _ _⟩

end Go.Proofs.Ythdjghmipepppaa

namespace Go.Proofs.Ythdjghmipepppaa
open Go.RowKit
set_option linter.unusedVariables false
set_option linter.unusedSimpArgs false

/-- Sizes in memory, while they are only read. -/
structure MI (w : World) (b o n cap : Nat) (l : List Nat) (wr : World) : Prop where
  sl : Sl wr (some ⟨b, o, none⟩) n cap (iv l)
  bel : Below w.heap.size w wr
theorem MI.next {w : World} {b o n cap : Nat} {l : List Nat} {wr w2 : World} (h : MI w b o n cap l wr) (k : Below wr.heap.size wr w2) : MI w b o n cap l w2 := ⟨h.sl.below k, nextB h.bel k⟩

set_option maxRecDepth 100000 in
set_option maxHeartbeats 1000000 in
theorem middle_any (b o n cap : Nat) (l : List Nat) (w : World) (h : Sl w (some ⟨b, o, none⟩) n cap (iv l)) (h2 : 2 ≤ n) (hn : n ≤ 100000) (hs : sumL l ≤ 1000000) :
    Calls Try.prog 96 #[.slice (some ⟨b, o, none⟩) n cap] w fun e w' => e = .returned (.int .i64 (mid l : Nat)) ∧ Below w.heap.size w w' := by
  have hl : l.length = n := by rw [← iv_len]; exact h.len
  have hf := h.fits
  have hn' : (n : Int) ≤ 100000 := by omega
  obtain ⟨t, ht⟩ : ∃ t : Nat, t = n / 2 := ⟨_, rfl⟩
  have ht1 : (n : Int) / 2 = (t : Int) := by omega
  have tb : 1 ≤ t ∧ t < n := by omega
  obtain ⟨O, CF, hO⟩ := cut_from Try.underlying155 intInfo b o n cap t (t : Nat) rfl (by omega) hf
  obtain ⟨m2, hm2⟩ : ∃ m2, m2 = n - t := ⟨_, rfl⟩
  obtain ⟨c2, hc2⟩ : ∃ c2, c2 = cap - t := ⟨_, rfl⟩
  rw [← hm2, ← hc2] at CF
  have CU := cut_upto Try.underlying155 intInfo b o n cap t (t : Nat) rfl (by omega)
  have S1 : Hid (∀ k, Calls Try.prog 100 #[.slice (some ⟨b, o, none⟩) t cap] (w.drewN k) fun e w' => e = .returned (.int .i64 (sumL (l.take t) : Nat)) ∧ w' = w.drewN k) := fun k => by
    have q := (h.below (drewB w k)).take (k := t) (by omega)
    rw [iv_take] at q
    exact (sum_any b o t cap (l.take t) _ q (by omega) (by have := sumL_split l t; omega)).mono fun e w' ⟨x, y⟩ => ⟨x, y.symm⟩
  have S2 : Hid (∀ k, Calls Try.prog 100 #[.slice (some ⟨b, O, none⟩) m2 c2] (w.drewN k) fun e w' => e = .returned (.int .i64 (sumL (l.drop t) : Nat)) ∧ w' = w.drewN k) := fun k => by
    rw [hm2, hc2]
    have q := (h.below (drewB w k)).drop (k := t) (by omega) hO
    rw [iv_drop] at q
    exact (sum_any b O (n - t) (cap - t) (l.drop t) _ q (by omega) (by have := sumL_split l t; omega)).mono fun e w' ⟨x, y⟩ => ⟨x, y.symm⟩
  have HL : Hid _ := hl
  have HM : Hid _ := h
  have TOP : Hid (top l = upT (cS l) (n - t) t) := by show _ = _; unfold top; rw [hl, ht]
  have HT : Hid _ := And.intro ht (And.intro hm2 hc2)
  clear ht h hl hO hm2 hc2
  go_enter Try.func96, Try.ntmps96
  go_upto_region 2 with fail
  obtain ⟨x1, hx1⟩ : ∃ x1, x1 = sumL (l.take t) := ⟨_, rfl⟩
  obtain ⟨x2, hx2⟩ : ∃ x2, x2 = sumL (l.drop t) := ⟨_, rfl⟩
  rw [← hx1] at S1
  rw [← hx2] at S2
  have HX : Hid _ := And.intro hx1 hx2
  clear hx1 hx2
  go_quiet (first | (go_at_call 100; with_reducible exact Calls.quiet_of_same (S1.out _)) | (go_at_call 100; with_reducible exact Calls.quiet_of_same (S2.out _)))
  have M0 : Hid (MI w b o n cap l (w.drewN nq)) := ⟨HM.out.below (drewB w nq), drewB w nq⟩
  generalize w.drewN nq = w9 at *
  clear S1 S2 CF CU
  go_wp2_with fail
  go_loopg [3, 4, 5] (n - t) (fun g av fv sv' wr => ∃ a f s : Nat, a < n ∧ 1 ≤ a ∧ g = n - a ∧ av = .int .i64 (a : Nat) ∧ fv = .int .i64 (f : Nat) ∧ sv' = .int .i64 (s : Nat) ∧ f ≤ 1000000 ∧ s ≤ 1000000 ∧ Hid (f = sumL (l.take a)) ∧ Hid (s = sumL (l.drop a)) ∧ Hid (upT (cS l) (n - t) t = upT (cS l) (n - a) a) ∧ Hid (MI w b o n cap l wr))
  case atStart =>
    have q := HX.out
    have := sumL_split l t
    exact ⟨t, x1, x2, tb.2, tb.1, rfl, rfl, rfl, rfl, by omega, by omega, q.1, q.2, rfl, M0.out⟩
  case round =>
    obtain ⟨a, f, s, ha, ha1, rfl, rfl, rfl, rfl, hf1, hs1, hF, hS, hU, hM⟩ := hrel
    have na : (n : Int) - (a : Int) = ((n - a : Nat) : Int) := by omega
    have NA : Hid _ := na
    have K : Hid _ := crowded_any (n - a) s wr (by omega) (by omega)
    have GB := sumL_at (l := l) a
    have SP : Hid (sumL (l.take (a + 1)) = f + l.getD a 0 ∧ s = l.getD a 0 + sumL (l.drop (a + 1))) := by
      have q := sumL_snoc (l := l) (k := a) (by have := HL.out; omega)
      have q1 := sumL_split l a
      have q2 := sumL_split l (a + 1)
      have := hF.out
      have := hS.out
      show _ ∧ _
      omega
    have SB : l.getD a 0 ≤ s ∧ f + l.getD a 0 ≤ 1000000 := by
      have := SP.out
      have := sumL_split l (a + 1)
      omega
    have a' : (a : Int) < (n : Int) := by omega
    obtain ⟨x, hx⟩ : ∃ x : Nat, x = l.getD a 0 := ⟨_, rfl⟩
    rw [← hx] at SP SB GB
    have HX2 : Hid _ := hx
    clear hx
    obtain ⟨m, hm⟩ : ∃ m : Nat, m = n - a := ⟨_, rfl⟩
    rw [← hm] at na K
    have CC : Hid (cS l a = crB m s) := by
      show _ = _
      unfold cS
      rw [HL.out, ← hm, hS.out]
    have HMm : Hid _ := hm
    clear hm
    cases cr : crB m s with
    | true =>
      rw [cr] at K
      have CT : Hid (cS l a = true) := by show _ = _; rw [CC.out]; exact cr
      have A2 : a + 1 < n := by have := cS_lt CT.out; have := HL.out; omega
      have CR : Hid _ := cr
      clear cr
      go_wp2_with fail
      refine Calls.mono K.out ?_
      rintro e w3 ⟨rfl, b3⟩
      have hM3 : Hid _ := hM.out.next b3
      have e3 := hM3.out.sl.int ha
      rw [← HX2.out] at e3
      go_wp2_with fail
      go_roundg (n - (a + 1))
      case measure => omega
      case rel =>
        have q := SP.out
        have q1 := sumL_split l (a + 1)
        refine ⟨a + 1, f + x, s - x, A2, by omega, rfl, by go_num, by go_num, by congr 1; omega, by omega, by omega, ?_, ?_, ?_, hM3.out⟩
        · show _ = _; omega
        · show _ = _; omega
        · show _ = _
          rw [hU.out]
          exact upT_step CT.out ha
    | false =>
      rw [cr] at K
      have CT : Hid (cS l a = false) := by show _ = _; rw [CC.out]; exact cr
      have TP : Hid (top l = a) := by show _ = _; rw [TOP.out, hU.out]; exact upT_stop CT.out
      have CR : Hid _ := cr
      clear cr SP SB GB HX2
      go_wp2_with fail
      refine Calls.mono K.out ?_
      rintro e w3 ⟨rfl, b3⟩
      have hM3 : Hid _ := hM.out.next b3
      go_wp2_with fail
      go_loopg [3, 4] a (fun g av fv wr => ∃ a2 f2 : Nat, a2 ≤ a ∧ 1 ≤ a2 ∧ g = a2 ∧ av = .int .i64 (a2 : Nat) ∧ fv = .int .i64 (f2 : Nat) ∧ f2 ≤ 1000000 ∧ Hid (f2 = sumL (l.take a2)) ∧ Hid (dnT (cF l) a = dnT (cF l) a2) ∧ Hid (MI w b o n cap l wr))
      case atStart => exact ⟨a, f, Nat.le_refl _, ha1, rfl, rfl, rfl, hf1, hF.out, rfl, hM3.out⟩
      case round =>
        clear K hM hM3 hF hS
        obtain ⟨a2, f2, h21, h22, rfl, rfl, rfl, hf2, hF, hD, hM⟩ := hrel
        have K : Hid _ := crowded_any gk f2 wr (by omega) (by omega)
        have CC : Hid (cF l gk = crB gk f2) := by
          show _ = _
          unfold cF
          rw [hF.out]
        cases cr : crB gk f2 with
        | true =>
          rw [cr] at K
          have CT : Hid (cF l gk = true) := by show _ = _; rw [CC.out]; exact cr
          have A2 : 1 < gk := cF_lt CT.out
          obtain ⟨d, hd'⟩ : ∃ d : Nat, d = gk - 1 := ⟨_, rfl⟩
          have dg : (gk : Int) - 1 = (d : Int) := by omega
          have dn : (d : Int) < (n : Int) := by omega
          have SP : Hid (f2 = sumL (l.take d) + l.getD d 0) := by
            have q := sumL_snoc (l := l) (k := d) (by have := HL.out; omega)
            have := hF.out
            rw [show d + 1 = gk by omega] at q
            show _ = _
            omega
          have DD : Hid (1 ≤ d ∧ d ≤ a ∧ d < gk ∧ d = gk - 1) := by show _ ∧ _; omega
          have CR : Hid _ := cr
          clear cr hd'
          obtain ⟨x, hx⟩ : ∃ x : Nat, x = l.getD d 0 := ⟨_, rfl⟩
          rw [← hx] at SP
          have SB : x ≤ f2 := by have := SP.out; omega
          have HX2 : Hid _ := hx
          clear hx
          go_wp2_with fail
          refine Calls.mono K.out ?_
          rintro e w4 ⟨rfl, b4⟩
          have hM4 : Hid _ := hM.out.next b4
          have e4 := hM4.out.sl.int (show d < n by omega)
          rw [← HX2.out] at e4
          go_wp2_with fail
          go_roundg d
          case measure => exact DD.out.2.2.1
          case rel =>
            have q := SP.out
            have qd := DD.out
            refine ⟨d, f2 - x, qd.2.1, qd.1, rfl, rfl, by congr 1; omega, by omega, ?_, ?_, hM4.out⟩
            · show _ = _; omega
            · show _ = _
              rw [hD.out, dnT_step CT.out (by omega), ← qd.2.2.2]
        | false =>
          rw [cr] at K
          have CT : Hid (cF l gk = false) := by show _ = _; rw [CC.out]; exact cr
          have MD : Hid (mid l = gk) := by show _ = _; unfold mid; rw [TP.out, hD.out]; exact dnT_stop CT.out
          have CR : Hid _ := cr
          clear cr
          go_wp2_with fail
          refine Calls.mono K.out ?_
          rintro e w4 ⟨rfl, b4⟩
          go_wp2
          go_ret
          exact ⟨retV (by rw [MD.out]; rfl), nextB hM.out.bel b4⟩

end Go.Proofs.Ythdjghmipepppaa

namespace Go.Proofs.Ythdjghmipepppaa
open Go.RowKit
set_option linter.unusedVariables false
set_option linter.unusedSimpArgs false

/-- A box and two places for results, while new memory is made. -/
structure Sp (w : World) (c0 c1 c2 c3 : Value) (W : World) : Prop where
  bel : Below w.heap.size w W
  box : B4 W w.heap.size c0 c1 c2 c3
  ra : B4 W (w.heap.size + 1) (.bool false) (.slice none 0 0) (.slice none 0 0) (.slice none 0 0)
  rb : B4 W (w.heap.size + 2) (.bool false) (.slice none 0 0) (.slice none 0 0) (.slice none 0 0)
  fa : ∀ o, W.frozen? ⟨w.heap.size + 1, o, none⟩ = false
  fb : ∀ o, W.frozen? ⟨w.heap.size + 2, o, none⟩ = false
theorem Sp.kept {w : World} {c0 c1 c2 c3 : Value} {W W' : World} (h : Sp w c0 c1 c2 c3 W) (b : Below w.heap.size w W') (e : ∀ k, k < w.heap.size + 3 → W'.heap[k]? = W.heap[k]?) : Sp w c0 c1 c2 c3 W' :=
  ⟨b, h.box.kept (e _ (by omega)), h.ra.kept (e _ (by omega)), h.rb.kept (e _ (by omega)), frozen_kept h.fa (e _ (by omega)), frozen_kept h.fb (e _ (by omega))⟩
theorem Sp.sz {w : World} {c0 c1 c2 c3 : Value} {W : World} (h : Sp w c0 c1 c2 c3 W) : w.heap.size + 3 ≤ W.heap.size := h.rb.lt
theorem Sp.next {w : World} {c0 c1 c2 c3 : Value} {W W' : World} (h : Sp w c0 c1 c2 c3 W) (b : Below W.heap.size W W') : Sp w c0 c1 c2 c3 W' :=
  h.kept (nextB h.bel b) (fun k hk => b.block k (by have := h.sz; omega))
theorem Sp.far {w : World} {c0 c1 c2 c3 : Value} {W W' : World} {r : Option Nat} (h : Sp w c0 c1 c2 c3 W) (g : W.grownBy W' r) (hr : ∀ k, r = some k → w.heap.size + 3 ≤ k) : Sp w c0 c1 c2 c3 W' :=
  h.kept (h.bel.grown g h.bel.size (fun k hk => by have := hr k hk; omega)) (fun k hk => g.block k (by have := h.sz; omega) (fun e => by have := hr k e.symm; omega))
theorem Sp.new (w : World) (c0 c1 c2 c3 : Value) (t t1 t2 : TypeId) : Sp w c0 c1 c2 c3 (((w.alloc (.cells #[c0, c1, c2, c3] t)).alloc (.cells #[.bool false, .slice none 0 0, .slice none 0 0, .slice none 0 0] t1)).alloc (.cells #[.bool false, .slice none 0 0, .slice none 0 0, .slice none 0 0] t2)) := by
  have b1 := allocB w (.cells #[c0, c1, c2, c3] t)
  have q1 := B4.new (w.alloc (.cells #[c0, c1, c2, c3] t)) (.bool false) (.slice none 0 0) (.slice none 0 0) (.slice none 0 0) t1
  rw [World.size_alloc] at q1
  have q2 := B4.new ((w.alloc (.cells #[c0, c1, c2, c3] t)).alloc (.cells #[.bool false, .slice none 0 0, .slice none 0 0, .slice none 0 0] t1)) (.bool false) (.slice none 0 0) (.slice none 0 0) (.slice none 0 0) t2
  rw [World.size_alloc, World.size_alloc] at q2
  have h1 := heap_alloc_new (w.alloc (.cells #[c0, c1, c2, c3] t)) (.cells #[.bool false, .slice none 0 0, .slice none 0 0, .slice none 0 0] t1)
  rw [World.size_alloc] at h1
  have h2 := heap_alloc_new ((w.alloc (.cells #[c0, c1, c2, c3] t)).alloc (.cells #[.bool false, .slice none 0 0, .slice none 0 0, .slice none 0 0] t1)) (.cells #[.bool false, .slice none 0 0, .slice none 0 0, .slice none 0 0] t2)
  rw [World.size_alloc, World.size_alloc] at h2
  exact ⟨nextB (nextB b1 (allocB _ _)) (allocB _ _), ((B4.new w _ _ _ _ t).below (allocB _ _)).below (allocB _ _), q1.below (allocB _ _), q2, frozen_kept (fun o => frozen_of_row _ _ _ _ _ h1) ((allocB _ _).block _ q1.lt), fun o => frozen_of_row _ _ _ _ _ h2⟩

/-- One cell of a slice is turned. -/
theorem Sl.put {w : World} {g o n c i : Nat} {vs : List Value} {u : Value} (h : Sl w (some ⟨g, o, none⟩) n c vs) (hi : i < n) (h1 : u.oneCell' = true) : Sl (w.setCell ⟨g, o + i, none⟩ u) (some ⟨g, o, none⟩) n c (vs.set i u) := by
  have hl := h.len
  refine ⟨by rw [List.length_set]; exact hl, h.fits, h.max, fun e => by simp at e, ⟨g, o, fun _ => rfl, fun j x hj => ?_⟩, fun x hx => ?_⟩
  · have jl := lt_of_some hj
    rw [List.length_set] at jl
    by_cases q : i = j
    · subst q
      rw [List.getElem?_set_self (by omega)] at hj
      rw [World.cell?_setCell_same _ _ _ (h.cells i _ (List.getElem?_eq_getElem jl))]
      exact hj
    · rw [List.getElem?_set_ne q] at hj
      have ne : (⟨g, o + i, none⟩ : Addr) ≠ ⟨g, o + j, none⟩ := fun k => by injection k with _ k; omega
      first | rw [World.cell?_setCell_other _ _ _ _ ne] | rw [World.cell?_setCell_other _ _ _ _ ne.symm]
      exact h.cells j x hj
  · rcases List.mem_or_eq_of_mem_set hx with q | q
    · exact h.one x q
    · subst q; exact h1
/-- Sizes so far, and noughts behind them. -/
def fil (l : List Nat) (k : Nat) : List Value := iv (l.take k) ++ List.replicate (l.length - k) (Value.int .i64 0)
theorem fil_set {l : List Nat} {k : Nat} (h : k < l.length) : (fil l k).set k (.int .i64 ((l.getD k 0 : Nat) : Int)) = fil l (k + 1) := by
  unfold fil
  have e : (iv (l.take k)).length = k := by rw [iv_len, List.length_take]; omega
  rw [List.set_append_right _ _ (by omega), e, Nat.sub_self, take_snoc h 0]
  rw [show l.length - k = (l.length - (k + 1)) + 1 by omega, List.replicate_succ]
  simp [iv]
theorem fil_all (l : List Nat) : fil l l.length = iv l := by unfold fil; simp
theorem fil_none (l : List Nat) : fil l 0 = List.replicate l.length (Value.int .i64 0) := by unfold fil; simp [iv]
theorem make_int (w : World) (n : Nat) (h : n ≤ 100000) : (Instr.makeSlice 155 (.int .i64 (n : Nat)) (.int .i64 (n : Nat))).run Try.prog w = .ok (.slice (some ⟨w.heap.size, 0, none⟩) n n) (w.alloc (.cells (List.replicate n (Value.int .i64 0)).toArray 3)) := by
  rw [run_make_row' 155 3 (.int .i64 0) 8 Try.underlying155 intInfo rfl .i64 .i64 n (by omega) (by omega) w, zcells 3]

/-- What stands while the sizes are laid. -/
structure SL (w : World) (c0 c1 c2 c3 : Value) (ka : Option Addr) (kn kc : Nat) (ks : List Value) (va : Option Addr) (vn vc : Nat) (vs : List Value) (sb : Nat) (l : List Value) (wr : World) : Prop where
  sp : Sp w c0 c1 c2 c3 wr
  key : Sl wr ka kn kc ks
  val : Sl wr va vn vc vs
  siz : Sl wr (some ⟨sb, 0, none⟩) kn kn l
  fz : ∀ o, wr.frozen? ⟨sb, o, none⟩ = false
  slt : sb < wr.heap.size
  sbb : w.heap.size + 3 ≤ sb
  kap : ∀ x, 0 < kn → ka = some x → x.block < w.heap.size
  vap : ∀ x, 0 < vn → va = some x → x.block < sb ∧ w.heap.size + 3 ≤ x.block
theorem SL.next {w : World} {c0 c1 c2 c3 : Value} {ka : Option Addr} {kn kc : Nat} {ks : List Value} {va : Option Addr} {vn vc : Nat} {vs : List Value} {sb : Nat} {l : List Value} {wr w2 : World} (h : SL w c0 c1 c2 c3 ka kn kc ks va vn vc vs sb l wr) (b : Below wr.heap.size wr w2) : SL w c0 c1 c2 c3 ka kn kc ks va vn vc vs sb l w2 :=
  ⟨h.sp.next b, h.key.below b, h.val.below b, h.siz.below b, frozen_kept h.fz (b.block sb h.slt), Nat.lt_of_lt_of_le h.slt b.size, h.sbb, h.kap, h.vap⟩
theorem SL.put {w : World} {c0 c1 c2 c3 : Value} {ka : Option Addr} {kn kc : Nat} {ks : List Value} {va : Option Addr} {vn vc : Nat} {vs : List Value} {sb : Nat} {l : List Value} {wr : World} (h : SL w c0 c1 c2 c3 ka kn kc ks va vn vc vs sb l wr) {i : Nat} {u : Value} (hi : i < kn) (h1 : u.oneCell' = true) : SL w c0 c1 c2 c3 ka kn kc ks va vn vc vs sb (l.set i u) (wr.setCell ⟨sb, i, none⟩ u) := by
  have g := grownBy_setCell wr sb i u
  have q := h.siz.put (i := i) (u := u) hi h1
  rw [Nat.zero_add] at q
  have hb := h.sbb
  refine ⟨h.sp.far g (fun k hk => by have := Option.some.inj hk; omega), h.key.grown g (fun p x hx e => by have := h.kap x p hx; have := Option.some.inj e; omega), h.val.grown g (fun p x hx e => by have := h.vap x p hx; have := Option.some.inj e; omega), q, fun o => by simpa using h.fz o, by simpa using h.slt, h.sbb, h.kap, h.vap⟩

end Go.Proofs.Ythdjghmipepppaa

