/- The walks over the reference's disk, on: Write. -/
import Derived.Test.YtblmfkdcahhhbaaDoorK3
import Derived.Laws.Concat
namespace Go.Proofs.YtblmfkdcahhhbaaDoor
open Go.RowKit
set_option linter.unusedVariables false
set_option linter.unusedSimpArgs false

theorem str_app (a b : List Int) : strOfNums a ++ strOfNums b = strOfNums (a ++ b) := by
  apply ByteArray.ext
  simp [strOfNums]

set_option maxHeartbeats 2000000 in
theorem KWrite_any (p q n : Nat) (s : St) (i : Int) (b : List Int) (w : World) (h : Kk w p q n s) (hy : Bys b) (hb : b.length ≤ 1000) (hw : s.writes ≤ 1000000) :
    Calls Tryd.prog 23 #[.pointer (some ⟨p, 0, none⟩), .int .i64 i, .string (strOfNums b)] w fun e w' => e = .returned (.int .i64 (wE n s i b)) ∧ Kk w' p q n (wS n s i b) ∧ Gr p q w w' := by
  obtain ⟨cap, c0, hc1, hc2⟩ := h.c0
  have hsz : (strOfNums b).size = b.length := strOfNums_size b
  have pq : ¬ p = q := h.ne
  have qp : ¬ q = p := fun e => h.ne e.symm
  have H : Hid _ := h
  have HB : Hid (b.length ≤ 1000) := hb
  have SA : Hid (strOfNums b ++ strOfNums (List.replicate (64 - b.length) 0) = strOfNums (pad b)) := str_app _ _
  have HN : Hid (n ≤ cap ∧ cap ≤ maxLen) := ⟨hc1, hc2⟩
  have hm : ((b.length : Nat) : Int) ≤ 1000 := by omega
  clear hc1 hc2 hb
  by_cases hh : has n i = true
  · have hin : 0 ≤ i ∧ i < (n : Int) := of_decide_eq_true hh
    obtain ⟨k, rfl⟩ : ∃ k : Nat, i = k := ⟨i.toNat, by omega⟩
    have hkn : k < n := by omega
    have h0 : ¬ (k : Int) < 0 := by omega
    have hkn' : (k : Int) < (n : Int) := by omega
    by_cases h64 : b.length ≤ 64
    · have hhm : has n (k : Int) = true ∧ b.length ≤ 64 := ⟨hh, h64⟩
      have h64' : ¬ (64 : Int) < ((b.length : Nat) : Int) := by omega
      obtain ⟨sec, on, writes, lives, left, late⟩ := s
      have c1 := h.c1
      have ZR : Hid (∀ W, Calls Tryd.prog 39 #[.int .i64 (64 - ((b.length : Nat) : Int))] W fun e w' => e = .returned (.string (strOfNums (List.replicate (64 - b.length) 0))) ∧ W.alloc (.cells (vals (List.replicate (64 - b.length) 0)).toArray 5) = w') := fun W => by
        have e : (64 - ((b.length : Nat) : Int)) = ((64 - b.length : Nat) : Int) := by omega
        rw [e]
        exact zeros_any _ W (by omega)
      cases on with
      | false =>
        obtain ⟨e1, e2⟩ := wE_off hhm (s := ⟨sec, false, writes, lives, left, late⟩) rfl
        rw [e1, e2]
        generalize strOfNums b = t at *
        clear h e1 e2 ZR
        go_enter Tryd.func23, Tryd.ntmps23
        go_wp2
        go_ret
        exact ⟨rfl, H.out, Gr.refl _ _ _⟩
      | true =>
        have su : (strOfNums (List.replicate (64 - b.length) 0)).size = 64 - b.length := by rw [strOfNums_size, List.length_replicate]
        have sa := SA.out
        have hw' : (writes : Int) ≤ 1000000 := by have : writes ≤ 1000000 := hw; omega
        have HX : Hid _ := strOfNums_size (pad b)
        have PUT : Hid (∀ (W : World) (s' : St), Kk W p q n s' → Kk (W.setCell ⟨q, k, none⟩ (.string (strOfNums (pad b)))) p q n (s'.put k b)) := fun W s' hW => hW.put hkn h64 hy
        have HL : Hid (left ≤ 9223372036854775807) := h.ok.max
        rcases Nat.lt_trichotomy left 1 with l0 | l1 | l2
        · obtain rfl : left = 0 := by omega
          obtain ⟨e1, e2⟩ := wE_well hhm (s := ⟨sec, true, writes, lives, 0, late⟩) rfl (by show (0 : Nat) ≠ 1; decide)
          rw [e1, e2]
          generalize strOfNums b = t at *
          generalize strOfNums (List.replicate (64 - b.length) 0) = u at *
          generalize strOfNums (pad b) = x at *
          clear h e1 e2 hh hhm SA
          go_enter Tryd.func23, Tryd.ntmps23
          go_wp2_with fail
          refine Calls.mono (ZR.out _) ?_
          rintro e w1 ⟨rfl, hw1⟩
          have K1 : Hid (Kk w1 p q n ⟨sec, true, writes, lives, 0, late⟩) := by (rw [← hw1]; exact H.out.below (allocB _ _))
          have G1 : Hid (Gr p q w w1) := by (rw [← hw1]; exact Gr.alloc _ _ _ _)
          obtain ⟨cap1, d0, hcap1, hcap2⟩ := K1.out.c0
          have d1 := K1.out.c1
          have d2 : w1.cell? ⟨p, 2, none⟩ = some (.int .i64 (0)) := K1.out.c2
          obtain ⟨hw, d3, hod⟩ := K1.out.c3
          have d4 : w1.cell? ⟨p, 4, none⟩ = some (.int .i64 (writes : Nat)) := K1.out.c4
          have d5 := K1.out.row k hkn
          have f1 := K1.out.fp
          have f2 := K1.out.fq
          clear hw1
          go_wp2
          go_ret
          exact ⟨rfl, (PUT.out _ _ K1.out).set4 (writes + 1), (G1.out.trans (Gr.setq p _ _ _)).trans (Gr.set q _ _ _)⟩
        · subst l1
          obtain ⟨e1, e2⟩ := wE_cut hhm (s := ⟨sec, true, writes, lives, 1, late⟩) rfl rfl
          rw [e1, e2]
          generalize strOfNums b = t at *
          generalize strOfNums (List.replicate (64 - b.length) 0) = u at *
          generalize strOfNums (pad b) = x at *
          clear h e1 e2 hh hhm SA
          cases late with
          | false =>
            go_enter Tryd.func23, Tryd.ntmps23
            go_wp2_with fail
            refine Calls.mono (ZR.out _) ?_
            rintro e w1 ⟨rfl, hw1⟩
            have K1 : Hid (Kk w1 p q n ⟨sec, true, writes, lives, 1, false⟩) := by (rw [← hw1]; exact H.out.below (allocB _ _))
            have G1 : Hid (Gr p q w w1) := by (rw [← hw1]; exact Gr.alloc _ _ _ _)
            obtain ⟨cap1, d0, hcap1, hcap2⟩ := K1.out.c0
            have d1 := K1.out.c1
            have d2 : w1.cell? ⟨p, 2, none⟩ = some (.int .i64 (1)) := K1.out.c2
            obtain ⟨hw, d3, hod⟩ := K1.out.c3
            have d4 : w1.cell? ⟨p, 4, none⟩ = some (.int .i64 (writes : Nat)) := K1.out.c4
            have d5 := K1.out.row k hkn
            have f1 := K1.out.fp
            have f2 := K1.out.fq
            have rr : hw.tmod 2 = 0 := rem_no (hod (by show (1 : Nat) ≠ 0; decide))
            clear hod
            clear hw1
            go_wp2
            go_ret
            exact ⟨rfl, (K1.out.set2 0 (by decide) (fun e => absurd rfl e)).set1 false, (G1.out.trans (Gr.set q _ _ _)).trans (Gr.set q _ _ _)⟩
          | true =>
            go_enter Tryd.func23, Tryd.ntmps23
            go_wp2_with fail
            refine Calls.mono (ZR.out _) ?_
            rintro e w1 ⟨rfl, hw1⟩
            have K1 : Hid (Kk w1 p q n ⟨sec, true, writes, lives, 1, true⟩) := by (rw [← hw1]; exact H.out.below (allocB _ _))
            have G1 : Hid (Gr p q w w1) := by (rw [← hw1]; exact Gr.alloc _ _ _ _)
            obtain ⟨cap1, d0, hcap1, hcap2⟩ := K1.out.c0
            have d1 := K1.out.c1
            have d2 : w1.cell? ⟨p, 2, none⟩ = some (.int .i64 (1)) := K1.out.c2
            obtain ⟨hw, d3, hod⟩ := K1.out.c3
            have d4 : w1.cell? ⟨p, 4, none⟩ = some (.int .i64 (writes : Nat)) := K1.out.c4
            have d5 := K1.out.row k hkn
            have f1 := K1.out.fp
            have f2 := K1.out.fq
            have rr : (hw.tmod 2 != 0) = true := (rem_odd hw).trans (hod (by show (1 : Nat) ≠ 0; decide))
            clear hod
            clear hw1
            go_wp2
            go_ret
            exact ⟨rfl, PUT.out _ _ ((K1.out.set2 0 (by decide) (fun e => absurd rfl e)).set1 false), ((G1.out.trans (Gr.set q _ _ _)).trans (Gr.set q _ _ _)).trans (Gr.setq p _ _ _)⟩
        · obtain ⟨e1, e2⟩ := wE_well hhm (s := ⟨sec, true, writes, lives, left, late⟩) rfl (by show left ≠ 1; omega)
          rw [e1, e2]
          obtain ⟨j, rfl⟩ : ∃ j, left = j + 1 := ⟨left - 1, by omega⟩
          have j1 : ((j : Int) == 0) = false := beq_eq_false_iff_ne.2 (by omega)
          have jm : (j : Int) ≤ 9223372036854775806 := by have := HL.out; omega
          have jp : (0 : Int) < (j : Int) + 1 := by omega
          generalize strOfNums b = t at *
          generalize strOfNums (List.replicate (64 - b.length) 0) = u at *
          generalize strOfNums (pad b) = x at *
          clear h e1 e2 hh hhm SA
          go_enter Tryd.func23, Tryd.ntmps23
          go_wp2_with fail
          refine Calls.mono (ZR.out _) ?_
          rintro e w1 ⟨rfl, hw1⟩
          have K1 : Hid (Kk w1 p q n ⟨sec, true, writes, lives, j + 1, late⟩) := by (rw [← hw1]; exact H.out.below (allocB _ _))
          have G1 : Hid (Gr p q w w1) := by (rw [← hw1]; exact Gr.alloc _ _ _ _)
          obtain ⟨cap1, d0, hcap1, hcap2⟩ := K1.out.c0
          have d1 := K1.out.c1
          have d2 : w1.cell? ⟨p, 2, none⟩ = some (.int .i64 ((j : Int) + 1)) := K1.out.c2
          obtain ⟨hw, d3, hod⟩ := K1.out.c3
          have d4 : w1.cell? ⟨p, 4, none⟩ = some (.int .i64 (writes : Nat)) := K1.out.c4
          have d5 := K1.out.row k hkn
          have f1 := K1.out.fp
          have f2 := K1.out.fq
          clear hw1
          go_wp2
          go_ret
          exact ⟨rfl, (PUT.out _ _ (K1.out.set2 j (by omega) (fun _ => by show j + 1 ≠ 0; omega))).set4 (writes + 1), ((G1.out.trans (Gr.set q _ _ _)).trans (Gr.setq p _ _ _)).trans (Gr.set q _ _ _)⟩
    · obtain ⟨e1, e2⟩ := wE_no (n := n) (s := s) (i := (k : Int)) (b := b) (fun x => h64 x.2)
      rw [e1, e2]
      have h64' : (64 : Int) < ((b.length : Nat) : Int) := by omega
      generalize strOfNums b = t at *
      clear h e1 e2 hh h64
      go_enter Tryd.func23, Tryd.ntmps23
      go_wp2
      go_ret
      exact ⟨rfl, H.out, Gr.refl _ _ _⟩
  · obtain ⟨e1, e2⟩ := wE_no (n := n) (s := s) (i := i) (b := b) (fun x => hh x.1)
    rw [e1, e2]
    generalize strOfNums b = t at *
    clear h e1 e2
    by_cases h0 : i < 0
    · clear hh
      go_enter Tryd.func23, Tryd.ntmps23
      go_wp2
      go_ret
      exact ⟨rfl, H.out, Gr.refl _ _ _⟩
    · have h1 : (n : Int) ≤ i := by
        rcases Int.lt_or_le i (n : Int) with x | x
        · exact absurd (decide_eq_true ⟨by omega, x⟩) hh
        · exact x
      clear hh
      go_enter Tryd.func23, Tryd.ntmps23
      go_wp2
      go_ret
      exact ⟨rfl, H.out, Gr.refl _ _ _⟩

end Go.Proofs.YtblmfkdcahhhbaaDoor
