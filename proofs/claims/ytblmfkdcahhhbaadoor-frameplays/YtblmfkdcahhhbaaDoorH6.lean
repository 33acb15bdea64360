/- The walk over package frame: Open. -/
import Derived.Test.YtblmfkdcahhhbaaDoorH5
namespace Go.Proofs.YtblmfkdcahhhbaaDoor
open Go.RowKit
set_option linter.unusedVariables false
set_option linter.unusedSimpArgs false

set_option maxHeartbeats 2000000 in
theorem Open_no (w : World) (p q n : Nat) (s : St) (d : Dk w p q n s) (fi co : Int) (hn : n ≤ 4096) (hc : co ≤ 9223372036854775807) (h : fi < 0 ∨ co < 1 ∨ (n : Int) < fi + co) :
    Calls Tryd.prog 9 #[.pointer (some ⟨p, 0, none⟩), .int .i64 fi, .int .i64 co] w fun e w' => e = .returned (.tuple #[.pointer none, .int .i64 1]) ∧ w = w' := by
  have SE : Hid _ := Sectors_any p q n s w d
  have hn' : (n : Int) ≤ 4096 := by omega
  clear d
  by_cases h0 : fi < 0
  · clear h
    go_enter Tryd.func9, Tryd.ntmps9
    go_wp2_with (go_at_call 29; refine Calls.mono SE.out ?_; rintro e w1 ⟨rfl, rfl⟩)
    go_ret2
    exact ⟨rfl, rfl⟩
  · by_cases h1 : co < 1
    · clear h
      go_enter Tryd.func9, Tryd.ntmps9
      go_wp2_with (go_at_call 29; refine Calls.mono SE.out ?_; rintro e w1 ⟨rfl, rfl⟩)
      go_ret2
      exact ⟨rfl, rfl⟩
    · have h2 : (n : Int) - co < fi := by omega
      have h3 : (1 : Int) ≤ co := by omega
      clear h h1
      go_enter Tryd.func9, Tryd.ntmps9
      go_wp2_with (go_at_call 29; refine Calls.mono SE.out ?_; rintro e w1 ⟨rfl, rfl⟩)
      go_ret2
      exact ⟨rfl, rfl⟩
set_option maxHeartbeats 2000000 in
theorem Open_off (w : World) (p q n : Nat) (s : St) (d : Dk w p q n s) (fi co : Nat) (hn : n ≤ 4096) (h1 : 1 ≤ co) (h2 : fi + co ≤ n) (on : s.on = false) :
    Calls Tryd.prog 9 #[.pointer (some ⟨p, 0, none⟩), .int .i64 (fi : Nat), .int .i64 (co : Nat)] w fun e w' => e = .returned (.tuple #[.pointer none, .int .i64 4]) ∧ w = w' := by
  have SE : Hid _ := Sectors_any p q n s w d
  have PE : Hid _ := Power_any p q n s w d
  have hn' : (n : Int) ≤ 4096 := by omega
  have e1 : ¬ (co : Int) < 1 := by omega
  have e2 : ¬ ((n : Int) - (co : Int) < (fi : Int)) := by omega
  have e3 : (co : Int) ≤ 4096 := by omega
  rw [on] at PE
  clear d on
  go_enter Tryd.func9, Tryd.ntmps9
  go_wp2_with (first | (go_at_call 29; refine Calls.mono SE.out ?_; rintro e w1 ⟨rfl, rfl⟩) | (go_at_call 30; refine Calls.mono PE.out ?_; rintro e w1 ⟨rfl, rfl⟩))
  go_ret2
  exact ⟨rfl, rfl⟩
theorem opn_new (w : World) (p lv fi co : Nat) : Am (w.alloc (.cells #[.pointer (some ⟨p, 0, none⟩), .int .i64 (lv : Nat), .int .i64 (fi : Nat), .int .i64 (co : Nat), .int .u64 0, .slice none 0 0, .int .i64 0] 70)) w.heap.size p ⟨fi, co, 0, [], lv⟩ (.slice none 0 0) := by
  have bp := heap_alloc_last w (.cells #[.pointer (some ⟨p, 0, none⟩), .int .i64 (lv : Nat), .int .i64 (fi : Nat), .int .i64 (co : Nat), .int .u64 0, .slice none 0 0, .int .i64 0] 70)
  exact ⟨by rw [cell_of_row _ _ _ _ _ _ bp]; rfl, by rw [cell_of_row _ _ _ _ _ _ bp]; rfl, by rw [cell_of_row _ _ _ _ _ _ bp]; rfl, by rw [cell_of_row _ _ _ _ _ _ bp]; rfl, by rw [cell_of_row _ _ _ _ _ _ bp]; rfl, by rw [cell_of_row _ _ _ _ _ _ bp]; rfl, by rw [cell_of_row _ _ _ _ _ _ bp]; rfl, World.ownsRow_nil _ _ _ _, fun o => frozen_of_row _ _ _ _ _ bp, by simp [Value.ownBlock]⟩
/-- What find found keeps to its bounds. -/
theorem fnd_ok {sec : Nat → List Int} {fi co : Nat} (hl : ∀ j, (sec j).length = 64) (hb : ∀ j, Bys (sec j)) : ∀ (k l : Nat) (fs : List Fa), l < 18446744073709551616 → used fs ≤ co → (fnd sec fi co k l fs).1 < 18446744073709551616 ∧ used (fnd sec fi co k l fs).2 ≤ co
  | 0, l, fs, h1, h2 => ⟨h1, h2⟩
  | k + 1, l, fs, h1, h2 => by
    rw [fnd]
    split
    · exact ⟨h1, h2⟩
    · rename_i f hf
      obtain ⟨r1, r2, r3, -, -, -⟩ := rdB_room hl hb hf
      split
      · refine fnd_ok hl hb k f.life _ r3 ?_
        rw [used_snoc]
        show used fs + fsize f.pay.length ≤ co
        have := fsize_pos f.pay.length
        omega
      · exact ⟨h1, h2⟩
theorem opn_ok {n fi co : Nat} {s : St} (hs : s.Ok) (hn : n ≤ 4096) (h2 : fi + co ≤ n) (hv : s.lives ≤ 1000000) : ArOk n (opn s fi co) := by
  obtain ⟨h1, h3⟩ := fnd_ok (fi := fi) (co := co) hs.len hs.bys co 0 [] (by decide) (Nat.zero_le _)
  exact ⟨h3, h2, hn, h1, hv⟩

set_option maxHeartbeats 2000000 in
theorem Open_yes (w : World) (p q n : Nat) (s : St) (d : Dk w p q n s) (T : Tab w) (fi co : Nat) (hn : n ≤ 4096) (h1 : 1 ≤ co) (h2 : fi + co ≤ n) (on : s.on = true) (hv : s.lives ≤ 1000000) :
    Calls Tryd.prog 9 #[.pointer (some ⟨p, 0, none⟩), .int .i64 (fi : Nat), .int .i64 (co : Nat)] w fun e w' => ∃ v, e = .returned (.tuple #[.pointer (some ⟨w.heap.size, 0, none⟩), .int .i64 0]) ∧ Am w' w.heap.size p (opn s fi co) v ∧ (∀ g, v.ownBlock = some g → w.heap.size ≤ g) ∧ Below w.heap.size w w' := by
  have SE : Hid _ := Sectors_any p q n s w d
  have PE : Hid _ := Power_any p q n s w d
  have LE : Hid _ := Lives_any p q n s w d
  have hn' : (n : Int) ≤ 4096 := by omega
  have e1 : ¬ (co : Int) < 1 := by omega
  have e2 : ¬ ((n : Int) - (co : Int) < (fi : Int)) := by omega
  have e3 : (co : Int) ≤ 4096 := by omega
  have D : Hid _ := d
  have OO : Hid (s.on = true) := on
  have TT : Hid (Tab w) := T
  have HV : Hid _ := hv
  rw [on] at PE
  have A0 : Hid _ := opn_new w p s.lives fi co
  have OK0 : Hid (ArOk n ⟨fi, co, 0, [], s.lives⟩) := ⟨Nat.zero_le _, h2, hn, by show (0 : Nat) < 18446744073709551616; decide, hv⟩
  clear d on T hv
  go_enter Tryd.func9, Tryd.ntmps9
  go_wp2_with (first | (go_at_call 29; refine Calls.mono SE.out ?_; rintro e w1 ⟨rfl, rfl⟩) | (go_at_call 30; refine Calls.mono PE.out ?_; rintro e w1 ⟨rfl, rfl⟩) | (go_at_call 31; refine Calls.mono LE.out ?_; rintro e w1 ⟨rfl, rfl⟩) | (go_at_call 32; refine Calls.mono (find_any _ w.heap.size p q n w.heap.size s ⟨fi, co, 0, [], s.lives⟩ A0.out rfl rfl (D.out.below (allocB _ _)) OK0.out (TT.out.next (allocB _ _)) OO.out (Nat.le_refl _) (by simp) D.out.ltp D.out.ltq TT.out.1) ?_; rintro e w2 ⟨rfl, v2, a2, n2, b2⟩))
  go_ret2
  exact ⟨v2, rfl, a2, n2, (allocB w _).trans b2⟩

end Go.Proofs.YtblmfkdcahhhbaaDoor
