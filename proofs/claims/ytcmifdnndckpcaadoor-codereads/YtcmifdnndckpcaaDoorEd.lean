/- The walks over publicanref14's reader: how many, and rows of numbers. -/
import Derived.Test.YtcmifdnndckpcaaDoorDk
import Derived.Test.YtcmifdnndckpcaaDoorR3
import Derived.Deep.DeepCutAuto
namespace Go.Proofs.YtcmifdnndckpcaaDoor
open Go.RowKit
set_option linter.unusedVariables false
set_option linter.unusedSimpArgs false

theorem Rd.flag {w : World} {p q : Nat} {bad : Bool} {bs : List Int} (h : Rd w p q bad bs) : Rd (w.setCell ⟨p, 1, none⟩ (.bool true)) p q true bs := by
  obtain ⟨a, n, cap, c0, by0, hh⟩ := h.ex
  have n1 : (⟨p, 0, none⟩ : Addr) ≠ ⟨p, 1, none⟩ := fun k => by injection k with _ k; cases k
  have n2 : (⟨p, 1, none⟩ : Addr) ≠ ⟨p, 0, none⟩ := n1.symm
  refine ⟨⟨a, n, cap, ?_, ?_, hh⟩, World.cell?_setCell_same _ _ _ h.bad, fun o => by simpa using h.fz o, h.ne⟩
  · first | exact (World.cell?_setCell_other _ _ _ _ n1).trans c0 | exact (World.cell?_setCell_other _ _ _ _ n2).trans c0
  · refine by0.grown (grownBy_setCell w p 1 _) (fun _ x hx => ?_)
    rcases hh with rfl | ⟨o, rfl⟩
    · simp at hx
    · simp at hx; subst hx; intro e; exact h.ne (by simpa using e.symm)
theorem cnt_le (s : Sr) : (cnt true s).1 ≤ s.1.length := by
  have := rR_len s.1
  by_cases k : (true = true ∧ (rR s.1).length < rU s.1)
  · rw [cnt_no k]; exact Nat.zero_le _
  · rw [cnt_yes k]
    have : ¬ (rR s.1).length < rU s.1 := fun h => k ⟨rfl, h⟩
    simp only
    omega
theorem cnt_down (q : Bool) (s : Sr) : (cnt q s).2.1.length ≤ s.1.length := by
  have := rR_len s.1
  by_cases k : (q = true ∧ (rR s.1).length < rU s.1)
  · rw [cnt_no k]; exact this
  · rw [cnt_yes k]; exact this
theorem cnt_bys {q : Bool} {s : Sr} (h : Bys s.1) : Bys (cnt q s).2.1 := by
  by_cases k : (q = true ∧ (rR s.1).length < rU s.1)
  · rw [cnt_no k]; exact rR_bys h
  · rw [cnt_yes k]; exact rR_bys h
set_option maxRecDepth 100000 in
set_option maxHeartbeats 8000000 in
theorem ref14_n_any {w : World} {p q : Nat} {s : Sr} (h : Rd w p q s.2 s.1) (hn : s.1.length ≤ 15000000) :
    Calls Tryd.prog 43 #[.pointer (some ⟨p, 0, none⟩)] w fun e w' => e = .returned (.int .i64 (((cnt true s).1 : Nat) : Int)) ∧ Rp w w' p q (cnt true s).2 := by
  have K := hid (wU_any p q s.2 s.1 w h (by omega))
  have LR := rR_len s.1
  by_cases k : (rR s.1).length < rU s.1
  · have E := hid (cnt_no (q := true) (s := s) ⟨rfl, k⟩)
    rw [E.out]
    clear E h
    generalize rU s.1 = u at *
    generalize rR s.1 = l at *
    generalize (s.2 || rB s.1) = b at *
    go_enter Tryd.func43, Tryd.ntmps43
    go_upto_region 2 with (go_at_call 68; (with_reducible refine Calls.mono K.out ?_); rintro e w1 ⟨rfl, r1, g1⟩; have R1 := hid r1; have G1 := hid g1; clear r1 g1 K)
    obtain ⟨a1, n1, cap1, c1, by1, hh1⟩ := R1.out.ex
    have el := by1.len
    have fz := R1.out.fz
    have f1 := R1.out.bad
    have c' : (n1 : Int) < (u : Int) := by omega
    have nb : n1 ≤ 15000000 := by omega
    have RF := hid R1.out.flag
    clear by1 hh1 el k
    go_wp2_with fail
    go_ret
    exact ⟨rfl, RF.out, grownBy_trans G1.out (grownBy_setCell _ _ _ _)⟩
  · have E := hid (cnt_yes (q := true) (s := s) (fun h => k h.2))
    rw [E.out]
    clear E h
    generalize rU s.1 = u at *
    generalize rR s.1 = l at *
    generalize (s.2 || rB s.1) = b at *
    go_enter Tryd.func43, Tryd.ntmps43
    go_upto_region 2 with (go_at_call 68; (with_reducible refine Calls.mono K.out ?_); rintro e w1 ⟨rfl, r1, g1⟩; have R1 := hid r1; have G1 := hid g1; clear r1 g1 K)
    obtain ⟨a1, n1, cap1, c1, by1, hh1⟩ := R1.out.ex
    have el := by1.len
    have c' : ¬ (n1 : Int) < (u : Int) := by omega
    have nb : n1 ≤ 15000000 := by omega
    have ub : u ≤ 15000000 := by omega
    clear by1 hh1 el k
    go_wp2_with fail
    go_ret
    exact ⟨rfl, R1.out, G1.out⟩
set_option maxRecDepth 100000 in
set_option maxHeartbeats 8000000 in
theorem ref14_reader_ints_any {w : World} {p q : Nat} {s : Sr} (h : Rd w p q s.2 s.1) (hn : s.1.length ≤ 15000000) (hq : q < w.heap.size) :
    Calls Tryd.prog 45 #[.pointer (some ⟨p, 0, none⟩)] w fun e w' => ∃ v, e = .returned v ∧ Qf 2 1 fI w' w.heap.size v ((cL true cI).rd s).1 ∧ Rp w w' p q ((cL true cI).rd s).2 := by
  rw [show (cL true cI).rd s = rdN cI (cnt true s).1 (cnt true s).2 from rfl]
  have hp := h.lt
  have PQ := hid (And.intro hp hq)
  have K := hid (ref14_n_any h hn)
  have LN := hid (show (cnt true s).2.1.length ≤ 15000000 from Nat.le_trans (cnt_down _ _) hn)
  have nb : (cnt true s).1 ≤ 15000000 := Nat.le_trans (cnt_le s) hn
  clear h hn hp hq
  generalize (cnt true s).1 = N0 at *
  generalize (cnt true s).2 = s0 at *
  go_enter Tryd.func45, Tryd.ntmps45
  go_wp2_with (go_at_call 43; (with_reducible refine Calls.mono K.out ?_); rintro e w1 ⟨rfl, r1⟩; have R1 := hid r1; clear r1 K)
  have I1 := hid (show RL (Qf 2 1 fI) cI w w1 p q (.slice none 0 0) [] s0 s0.1.length from ⟨R1.out.rd, R1.out.fr, Qf.nil _ _ _ _ _, by simp⟩)
  clear R1
  go_loopg [3, 5] N0 (fun g lv iv wr => ∃ (i : Nat) (xs : List Int) (t : Sr), iv = .int .i64 (i : Nat) ∧ i ≤ N0 ∧ g = N0 - i ∧ Hid (RL (Qf 2 1 fI) cI w wr p q lv xs t s0.1.length) ∧ Hid (rdN cI N0 s0 = (xs ++ (rdN cI (N0 - i) t).1, (rdN cI (N0 - i) t).2)))
  case atStart => exact ⟨0, [], s0, rfl, Nat.zero_le _, rfl, I1, hid (by simp)⟩
  case round =>
    obtain ⟨i, xs, t, rfl, hi, rfl, hI, hE⟩ := hrel
    clear I1
    by_cases q0 : i < N0
    · have q0' : (i : Int) < (N0 : Int) := by omega
      obtain ⟨l, b⟩ := t
      have cb := hI.out.rd.bad
      cases b with
      | true =>
        have E0 := hid (show rdN cI N0 s0 = (xs, (l, true)) from by rw [hE.out, rdN_bad _ _ _ rfl]; simp)
        clear hE
        go_wp2_with fail
        go_ret
        rw [E0.out]
        exact ⟨_, rfl, hI.out.row, hI.out.rd, hI.out.fr⟩
      | false =>
        have LL := hid (show l.length ≤ 15000000 from by have h1 := hI.out.len; have h2 := LN.out; simp at h1; omega)
        have LX := hid (show xs.length ≤ 15000001 from by have h1 := hI.out.len; have h2 := LN.out; simp at h1; omega)
        have KI := hid (show Calls Tryd.prog 44 _ wr (fun e w' => e = .returned (.int .i64 (cI.rd (l, false)).1) ∧ Rd w' p q (cI.rd (l, false)).2.2 (cI.rd (l, false)).2.1 ∧ World.grownBy wr w' (some p)) from wI_any p q false l wr hI.out.rd (by have := LL.out; omega))
        have E1 := hid (rl_eq (k := N0 - (i + 1)) (xs := xs) (l := l) (r := rdN cI N0 s0) (c := cI) (by rw [hE.out, show N0 - (i + 1) + 1 = N0 - i by omega]))
        have N1 := hid (rl_len cI_good hI.out.len)
        have sz := hI.out.fr.size
        clear hE
        go_wp2_with fail
        (with_reducible refine Calls.mono KI.out ?_)
        rintro e w4 ⟨rfl, r40, g40⟩
        have R4 := hid (Rp.mk r40 g40)
        have O4 := hid ((hI.out.row.but g40 PQ.out.1).next (allocB w4 (.cells (fI (cI.rd (l, false)).1).toArray 2)))
        have C4 := hid (cells_new w4 (fI (cI.rd (l, false)).1) 2)
        have Z4 := hid (show w.heap.size ≤ (w4.alloc (.cells (fI (cI.rd (l, false)).1).toArray 2)).heap.size from by have := hI.out.fr.size; have := g40.size; simp; omega)
        clear r40 g40 KI sz cb
        go_wp2_with (at_builtin; refine wpList_addQ 2 57 1 8 (.int .i64 0) fI rfl (.tmp 21) (.tmp 26) rfl Tryd.underlying57 info_I64 rfl (by decide) (by decide) (fun _ => rfl) w.heap.size _ xs (cI.rd (l, false)).1 rfl O4.out (fun u hu => by simp [fI] at hu; subst hu; rfl) w4.heap.size rfl C4.out (by have := LX.out; omega) Z4.out ?_; intro v5 w5 o5 g5)
        have O5 := hid o5
        have G5 := hid g5
        clear o5 g5
        go_roundg (N0 - (i + 1))
        case measure => omega
        case rel =>
          have ty := O4.out.ty
          have al := allocB w4 (.cells (fI (cI.rd (l, false)).1).toArray 2)
          refine ⟨i + 1, _, _, by rw [Int.natCast_add]; rfl, by omega, rfl, hid ⟨?_, ?_, O5.out, N1.out⟩, E1⟩
          · exact (R4.out.rd.below al).row G5.out (fun e => by have := (ty _ e).1; have := PQ.out.1; omega) (fun e => by have := (ty _ e).1; have := PQ.out.2; omega)
          · exact fr_row (fr_below (grownBy_trans hI.out.fr R4.out.fr) al) G5.out (fun i e => (ty i e).1)
    · have q0' : ¬ (i : Int) < (N0 : Int) := by omega
      have E0 := hid (show rdN cI N0 s0 = (xs, t) from by rw [hE.out, show N0 - i = 0 by omega]; simp [rdN])
      clear hE
      go_wp2_with fail
      go_ret
      rw [E0.out]
      exact ⟨_, rfl, hI.out.row, hI.out.rd, hI.out.fr⟩
set_option maxRecDepth 100000 in
set_option maxHeartbeats 8000000 in
theorem ref14_reader_kinds_any {w : World} {p q : Nat} {s : Sr} (h : Rd w p q s.2 s.1) (hn : s.1.length ≤ 15000000) (hq : q < w.heap.size) :
    Calls Tryd.prog 46 #[.pointer (some ⟨p, 0, none⟩)] w fun e w' => ∃ v, e = .returned v ∧ Qf 56 1 fI w' w.heap.size v ((cL true cI).rd s).1 ∧ Rp w w' p q ((cL true cI).rd s).2 := by
  rw [show (cL true cI).rd s = rdN cI (cnt true s).1 (cnt true s).2 from rfl]
  have hp := h.lt
  have PQ := hid (And.intro hp hq)
  have K := hid (ref14_n_any h hn)
  have LN := hid (show (cnt true s).2.1.length ≤ 15000000 from Nat.le_trans (cnt_down _ _) hn)
  have nb : (cnt true s).1 ≤ 15000000 := Nat.le_trans (cnt_le s) hn
  clear h hn hp hq
  generalize (cnt true s).1 = N0 at *
  generalize (cnt true s).2 = s0 at *
  go_enter Tryd.func46, Tryd.ntmps46
  go_wp2_with (go_at_call 43; (with_reducible refine Calls.mono K.out ?_); rintro e w1 ⟨rfl, r1⟩; have R1 := hid r1; clear r1 K)
  have I1 := hid (show RL (Qf 56 1 fI) cI w w1 p q (.slice none 0 0) [] s0 s0.1.length from ⟨R1.out.rd, R1.out.fr, Qf.nil _ _ _ _ _, by simp⟩)
  clear R1
  go_loopg [3, 5] N0 (fun g lv iv wr => ∃ (i : Nat) (xs : List Int) (t : Sr), iv = .int .i64 (i : Nat) ∧ i ≤ N0 ∧ g = N0 - i ∧ Hid (RL (Qf 56 1 fI) cI w wr p q lv xs t s0.1.length) ∧ Hid (rdN cI N0 s0 = (xs ++ (rdN cI (N0 - i) t).1, (rdN cI (N0 - i) t).2)))
  case atStart => exact ⟨0, [], s0, rfl, Nat.zero_le _, rfl, I1, hid (by simp)⟩
  case round =>
    obtain ⟨i, xs, t, rfl, hi, rfl, hI, hE⟩ := hrel
    clear I1
    by_cases q0 : i < N0
    · have q0' : (i : Int) < (N0 : Int) := by omega
      obtain ⟨l, b⟩ := t
      have cb := hI.out.rd.bad
      cases b with
      | true =>
        have E0 := hid (show rdN cI N0 s0 = (xs, (l, true)) from by rw [hE.out, rdN_bad _ _ _ rfl]; simp)
        clear hE
        go_wp2_with fail
        go_ret
        rw [E0.out]
        exact ⟨_, rfl, hI.out.row, hI.out.rd, hI.out.fr⟩
      | false =>
        have LL := hid (show l.length ≤ 15000000 from by have h1 := hI.out.len; have h2 := LN.out; simp at h1; omega)
        have LX := hid (show xs.length ≤ 15000001 from by have h1 := hI.out.len; have h2 := LN.out; simp at h1; omega)
        have KI := hid (show Calls Tryd.prog 44 _ wr (fun e w' => e = .returned (.int .i64 (cI.rd (l, false)).1) ∧ Rd w' p q (cI.rd (l, false)).2.2 (cI.rd (l, false)).2.1 ∧ World.grownBy wr w' (some p)) from wI_any p q false l wr hI.out.rd (by have := LL.out; omega))
        have E1 := hid (rl_eq (k := N0 - (i + 1)) (xs := xs) (l := l) (r := rdN cI N0 s0) (c := cI) (by rw [hE.out, show N0 - (i + 1) + 1 = N0 - i by omega]))
        have N1 := hid (rl_len cI_good hI.out.len)
        have sz := hI.out.fr.size
        clear hE
        go_wp2_with fail
        (with_reducible refine Calls.mono KI.out ?_)
        rintro e w4 ⟨rfl, r40, g40⟩
        have R4 := hid (Rp.mk r40 g40)
        have O4 := hid ((hI.out.row.but g40 PQ.out.1).next (allocB w4 (.cells (fI (cI.rd (l, false)).1).toArray 56)))
        have C4 := hid (cells_new w4 (fI (cI.rd (l, false)).1) 56)
        have Z4 := hid (show w.heap.size ≤ (w4.alloc (.cells (fI (cI.rd (l, false)).1).toArray 56)).heap.size from by have := hI.out.fr.size; have := g40.size; simp; omega)
        clear r40 g40 KI sz cb
        go_wp2_with (at_builtin; refine wpList_addQ 56 25 1 8 (.int .i64 0) fI rfl (.tmp 21) (.tmp 26) rfl Tryd.underlying25 info_Kind rfl (by decide) (by decide) (fun _ => rfl) w.heap.size _ xs (cI.rd (l, false)).1 rfl O4.out (fun u hu => by simp [fI] at hu; subst hu; rfl) w4.heap.size rfl C4.out (by have := LX.out; omega) Z4.out ?_; intro v5 w5 o5 g5)
        have O5 := hid o5
        have G5 := hid g5
        clear o5 g5
        go_roundg (N0 - (i + 1))
        case measure => omega
        case rel =>
          have ty := O4.out.ty
          have al := allocB w4 (.cells (fI (cI.rd (l, false)).1).toArray 56)
          refine ⟨i + 1, _, _, by rw [Int.natCast_add]; rfl, by omega, rfl, hid ⟨?_, ?_, O5.out, N1.out⟩, E1⟩
          · exact (R4.out.rd.below al).row G5.out (fun e => by have := (ty _ e).1; have := PQ.out.1; omega) (fun e => by have := (ty _ e).1; have := PQ.out.2; omega)
          · exact fr_row (fr_below (grownBy_trans hI.out.fr R4.out.fr) al) G5.out (fun i e => (ty i e).1)
    · have q0' : ¬ (i : Int) < (N0 : Int) := by omega
      have E0 := hid (show rdN cI N0 s0 = (xs, t) from by rw [hE.out, show N0 - i = 0 by omega]; simp [rdN])
      clear hE
      go_wp2_with fail
      go_ret
      rw [E0.out]
      exact ⟨_, rfl, hI.out.row, hI.out.rd, hI.out.fr⟩

end Go.Proofs.YtcmifdnndckpcaaDoor
