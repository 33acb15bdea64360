/- The walks over package disk, on: Write. -/
import Derived.Test.YtblmfkdcahhhbaaDoorD4
namespace Go.Proofs.YtblmfkdcahhhbaaDoor
open Go.RowKit
set_option linter.unusedVariables false
set_option linter.unusedSimpArgs false

theorem wE_no {n : Nat} {s : St} {i : Int} {b : List Int} (h : ¬ (has n i = true ∧ b.length ≤ 64)) : wE n s i b = 1 ∧ wS n s i b = s := ⟨if_neg h, if_neg h⟩
theorem wE_off {n : Nat} {s : St} {i : Int} {b : List Int} (h : has n i = true ∧ b.length ≤ 64) (o : s.on = false) : wE n s i b = 4 ∧ wS n s i b = s := by
  unfold wE wS; rw [if_pos h, if_pos h, if_neg (by simp [o]), if_neg (by simp [o])]; exact ⟨rfl, rfl⟩
theorem wE_cut {n : Nat} {s : St} {i : Int} {b : List Int} (h : has n i = true ∧ b.length ≤ 64) (o : s.on = true) (l : s.left = 1) : wE n s i b = 4 ∧ wS n s i b = { (if s.late = true then s.put i.toNat b else s) with on := false, left := 0 } := by
  unfold wE wS; rw [if_pos h, if_pos h, if_neg (by simp [l]), if_pos o, if_pos l]; exact ⟨rfl, rfl⟩
theorem wE_well {n : Nat} {s : St} {i : Int} {b : List Int} (h : has n i = true ∧ b.length ≤ 64) (o : s.on = true) (l : s.left ≠ 1) : wE n s i b = 0 ∧ wS n s i b = { s.well i.toNat b with left := s.left - 1 } := by
  unfold wE wS; rw [if_pos h, if_pos h, if_pos ⟨o, l⟩, if_pos o, if_neg l]; exact ⟨rfl, rfl⟩

set_option maxHeartbeats 2000000 in
theorem Write_any (p q n : Nat) (s : St) (i : Int) (a : Option Addr) (m c : Nat) (b : List Int) (w : World) (h : Dk w p q n s) (hy : By w a m c b) (hne : 0 < m → ∀ x, a = some x → x.block ≠ p ∧ x.block ≠ q) (hw : s.writes ≤ 1000000) :
    Calls Tryd.prog 22 #[.pointer (some ⟨p, 0, none⟩), .int .i64 i, .slice a m c] w fun e w' => e = .returned (.int .i64 (wE n s i b)) ∧ Dk w' p q n (wS n s i b) ∧ Gr p q w w' := by
  have hl := hy.len
  have hmx := hy.max
  have hfc := hy.fits
  have HA : Hid _ := has_any p q n s i w h
  have H : Hid _ := h
  have Y : Hid _ := hy
  have NE : Hid _ := hne
  have m0 : (m : Int) ≤ 9223372036854775807 := by unfold maxLen at hmx; omega
  clear hy hne hmx hfc
  by_cases hh : has n i = true
  · rw [hh] at HA
    by_cases hm : m ≤ 64
    · have h64 : ¬ (64 : Int) < (m : Int) := by omega
      have hhm : has n i = true ∧ b.length ≤ 64 := ⟨hh, by omega⟩
      have hin : 0 ≤ i ∧ i < (n : Int) := of_decide_eq_true hh
      obtain ⟨k, rfl⟩ : ∃ k : Nat, i = k := ⟨i.toNat, by omega⟩
      have hkn : k < n := by omega
      obtain ⟨sec, on, writes, lives, left, late⟩ := s
      have c1 := h.c1
      have c5 := h.c5
      have fp := h.fp
      cases on with
      | false =>
        obtain ⟨e1, e2⟩ := wE_off hhm (s := ⟨sec, false, writes, lives, left, late⟩) rfl
        rw [e1, e2]
        clear h e1 e2
        go_enter Tryd.func22, Tryd.ntmps22
        go_wp2_with (go_at_call 46; refine Calls.mono HA.out ?_; rintro e w1 ⟨rfl, rfl⟩)
        go_ret
        exact ⟨rfl, H.out, Gr.refl _ _ _⟩
      | true =>
        have F : Hid _ := falls_any p q n _ w h
        by_cases l1 : left = 1
        · subst l1
          obtain ⟨e1, e2⟩ := wE_cut hhm (s := ⟨sec, true, writes, lives, 1, late⟩) rfl rfl
          rw [e1, e2]
          clear h e1 e2
          cases late with
          | false =>
            go_enter Tryd.func22, Tryd.ntmps22
            go_wp2_with (first | (go_at_call 46; refine Calls.mono HA.out ?_; rintro e w1 ⟨rfl, rfl⟩) | (go_at_call 47; refine Calls.mono F.out ?_; rintro e w2 ⟨rfl, d2, g2⟩; have f1 := d2.c1; have f5 := d2.c5; have fz := d2.fp))
            go_ret
            exact ⟨rfl, d2.set1 false, g2.trans (Gr.set q _ _ _)⟩
          | true =>
            go_enter Tryd.func22, Tryd.ntmps22
            go_wp2_with (first | (go_at_call 46; refine Calls.mono HA.out ?_; rintro e w1 ⟨rfl, rfl⟩) | (go_at_call 47; refine Calls.mono F.out ?_; rintro e w2 ⟨rfl, d2, g2⟩; have f1 := d2.c1; have f5 := d2.c5; have fz := d2.fp) | (go_at_call 48; refine Calls.mono (put_any p q n _ k a m c b _ (d2.set1 false) hkn (Y.out.gr (g2.trans (Gr.set q _ 1 (.bool false))) NE.out) hm) ?_; rintro e w3 ⟨rfl, d3, g3⟩))
            go_ret
            exact ⟨rfl, d3, (g2.trans (Gr.set q _ _ _)).trans g3⟩
        · obtain ⟨e1, e2⟩ := wE_well hhm (s := ⟨sec, true, writes, lives, left, late⟩) rfl l1
          rw [e1, e2]
          have e3 : decide (left = 1) = false := decide_eq_false l1
          have F' : Hid (Calls Tryd.prog 47 #[.pointer (some ⟨p, 4, none⟩)] w fun e w' => e = .returned (.bool false) ∧ Dk w' p q n ⟨sec, true, writes, lives, left - 1, late⟩ ∧ Gr p q w w') := by
            have := F.out
            simp only [e3] at this
            exact this
          have hw' : (writes : Int) ≤ 1000000 := by have : writes ≤ 1000000 := hw; omega
          clear h e1 e2 F e3
          go_enter Tryd.func22, Tryd.ntmps22
          go_wp2_with (first | (go_at_call 46; refine Calls.mono HA.out ?_; rintro e w1 ⟨rfl, rfl⟩) | (go_at_call 47; refine Calls.mono F'.out ?_; rintro e w2 ⟨rfl, d2, g2⟩) | (go_at_call 48; refine Calls.mono (put_any p q n _ k a m c b _ d2 hkn (Y.out.gr g2 NE.out) hm) ?_; rintro e w3 ⟨rfl, d3, g3⟩; have f2 : w3.cell? ⟨p, 2, none⟩ = some (.int .i64 (writes : Nat)) := d3.c2; have fz := d3.fp))
          go_ret
          exact ⟨rfl, d3.set2 (writes + 1), (g2.trans g3).trans (Gr.set q _ _ _)⟩
    · obtain ⟨e1, e2⟩ := wE_no (n := n) (s := s) (i := i) (b := b) (fun k => hm (by omega))
      rw [e1, e2]
      have h64 : (64 : Int) < (m : Int) := by omega
      clear h e1 e2
      go_enter Tryd.func22, Tryd.ntmps22
      go_wp2_with (go_at_call 46; refine Calls.mono HA.out ?_; rintro e w1 ⟨rfl, rfl⟩)
      go_ret
      exact ⟨rfl, H.out, Gr.refl _ _ _⟩
  · have hf : has n i = false := by simpa using hh
    obtain ⟨e1, e2⟩ := wE_no (n := n) (s := s) (i := i) (b := b) (fun k => hh k.1)
    rw [e1, e2]
    rw [hf] at HA
    clear h e1 e2 hh
    go_enter Tryd.func22, Tryd.ntmps22
    go_wp2_with (go_at_call 46; refine Calls.mono HA.out ?_; rintro e w1 ⟨rfl, rfl⟩)
    go_ret
    exact ⟨rfl, H.out, Gr.refl _ _ _⟩

end Go.Proofs.YtblmfkdcahhhbaaDoor
