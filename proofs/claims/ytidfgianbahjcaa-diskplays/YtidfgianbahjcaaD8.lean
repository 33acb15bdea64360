/- The walk over the laws' 'awake'. -/
import Derived.Test.YtidfgianbahjcaaD7
import Derived.Lib.SlBytesConst
namespace Go.Proofs.Ytidfgianbahjcaa
open Go.RowKit
set_option linter.unusedVariables false

theorem by_const (w : World) (b : List Int) (hb : Bys b) (hl : b.length ≤ 1000) (fr : Nat × Nat) (t : TypeId) : By (w.alloc (.cells (vals b).toArray t fr)) (some ⟨w.heap.size, 0, none⟩) b.length b.length b := by
  refine ⟨rfl, Nat.le_refl _, by unfold maxLen; omega, fun e => by simp at e, ⟨w.heap.size, 0, fun _ => rfl, fun i hi => ?_⟩, hb⟩
  rw [cell_of_row _ _ _ _ _ _ (heap_alloc_last w _)]
  simp [vals, List.getD, List.getElem?_eq_getElem hi]

theorem Write_is {p q n : Nat} {s s' : St} {i x : Int} {a : Option Addr} {m c : Nat} {b : List Int} {w : World} (h : Dk w p q n s) (hy : By w a m c b) (hne : 0 < m → ∀ y, a = some y → y.block ≠ p ∧ y.block ≠ q) (hw : s.writes ≤ 1000000) (e1 : wE n s i b = x) (e2 : wS n s i b = s') :
    Calls Try.prog 10 #[.pointer (some ⟨p, 0, none⟩), .int .i64 i, .slice a m c] w fun e w' => e = .returned (.int .i64 x) ∧ Dk w' p q n s' ∧ Gr p q w w' := by
  subst e1; subst e2; exact Write_any p q n s i a m c b w h hy hne hw
def sA : St := { fresh.well 0 [120] with left := 0 }
def sB : St := sA.cutTo 1 (odd 0)
def sC : St := { sB with on := false, left := 0 }
def sD : St := sC.onAgain

set_option maxHeartbeats 4000000 in
theorem awake_any (w : World) : Calls Try.prog 7 #[] w fun e w' => e = .returned (.bool true) ∧ Below w.heap.size w w' := by
  have kc := fun (w : World) (C : Array Value) (n c : Nat) => Lib.run_convert_bytes_const (P := Try.prog) w 27 5 C n c Try.underlying27 Try.underlying5
  go_enter Try.func7, Try.ntmps7
  go_wp2_with fail
  refine (New_yes 2 w (by decide) (by decide)).mono ?_
  rintro e w1 ⟨rfl, d1, b1⟩
  have D1 : Hid _ := d1
  have B1 : Hid _ := b1
  have L : Hid (w.heap.size ≤ w.heap.size + 1 ∧ w.heap.size ≤ w.heap.size) := ⟨by omega, by omega⟩
  clear d1 b1
  generalize w.heap.size + 1 = p at *
  generalize hq : w.heap.size = z at D1 L ⊢
  generalize hz : z = q at D1 L ⊢
  have Z : Hid (w.heap.size = z) := hq
  have LZ : Hid (z ≤ p ∧ z ≤ q) := ⟨by have := L.out.1; omega, by omega⟩
  rw [hq] at B1
  clear L hz hq
  go_wp2_with fail
  refine (Write_is (x := 0) (s' := sA) (D1.out.below (allocB w1 (.cells (vals [120]).toArray 5 (1, 2)))) (by_const w1 [120] (fun x hx => by simp at hx; omega) (by decide) (1, 2) 5) (fun _ y hy => by have := D1.out.ltp; have := D1.out.ltq; simp at hy; subst hy; exact ⟨by show w1.heap.size ≠ p; omega, by show w1.heap.size ≠ q; omega⟩) (by decide) (by decide +kernel) rfl).mono ?_
  rintro e w2 ⟨rfl, d2, g2⟩
  have D2 : Hid _ := d2
  have B2 : Hid (Below z w w2) := Below.gr (B1.out.trans ((allocB w1 _).mono (by have := B1.out.size; have := Z.out; omega))) g2 (by have := B1.out.size; have := Z.out; simp; omega) LZ.out.1 LZ.out.2
  clear d2 g2 D1 B1
  go_wp2_with fail
  refine (Cut_any p q 2 sA 1 0 w2 D2.out (by decide)).mono ?_
  rintro e w3 ⟨rfl, d3, g3⟩
  have D3 : Hid (Dk w3 p q 2 sB) := d3
  have B3 : Hid (Below z w w3) := Below.gr B2.out g3 (by have := B2.out.size; have := Z.out; omega) LZ.out.1 LZ.out.2
  clear d3 g3 D2 B2
  go_wp2_with fail
  refine (Write_is (x := 4) (s' := sC) (D3.out.below (allocB w3 (.cells (vals [121]).toArray 5 (1, 2)))) (by_const w3 [121] (fun x hx => by simp at hx; omega) (by decide) (1, 2) 5) (fun _ y hy => by have := D3.out.ltp; have := D3.out.ltq; simp at hy; subst hy; exact ⟨by show w3.heap.size ≠ p; omega, by show w3.heap.size ≠ q; omega⟩) (by decide) (by decide +kernel) rfl).mono ?_
  rintro e w4 ⟨rfl, d4, g4⟩
  have D4 : Hid _ := d4
  have B4 : Hid (Below z w w4) := Below.gr (B3.out.trans ((allocB w3 _).mono (by have := B3.out.size; have := Z.out; omega))) g4 (by have := B3.out.size; have := Z.out; simp; omega) LZ.out.1 LZ.out.2
  clear d4 g4 D3 B3
  go_wp2_with fail
  refine (Power_any p q 2 sC w4 D4.out).mono ?_
  rintro e w4' ⟨rfl, rfl⟩
  go_wp2_with fail
  refine (Copy_any p q 2 sC w4 D4.out (by decide)).mono ?_
  rintro e w5 ⟨p', q', rfl, d5, l1, l2, b5⟩
  have D5 : Hid _ := D4.out.below b5
  have E5 : Hid _ := d5
  have B5 : Hid (Below z w w5) := B4.out.trans (b5.mono (by have := B4.out.size; have := Z.out; omega))
  have N5 : Hid (p' ≠ p ∧ p' ≠ q ∧ q' ≠ p ∧ q' ≠ q) := by have := D4.out.ltp; have := D4.out.ltq; exact ⟨by omega, by omega, by omega, by omega⟩
  clear d5 b5 l1 l2 D4 B4
  go_wp2_with fail
  refine (On_any p q 2 sC w5 D5.out (by decide)).mono ?_
  rintro e w6 ⟨rfl, d6, g6⟩
  have D6 : Hid (Dk w6 p q 2 sD) := d6
  have E6 : Hid _ := E5.out.gr g6 N5.out.1 N5.out.2.1 N5.out.2.2.1 N5.out.2.2.2
  have B6 : Hid (Below z w w6) := Below.gr B5.out g6 (by have := B5.out.size; have := Z.out; omega) LZ.out.1 LZ.out.2
  clear d6 g6 D5 E5 B5
  go_wp2_with fail
  refine (Read_yes p q 2 sD 0 w6 D6.out (by decide) rfl).mono ?_
  rintro e w7 ⟨rfl, hw7⟩
  have r0 : w7.cell? ⟨w6.heap.size, 0, none⟩ = some (.int .u8 120) := by
    rw [← hw7, cell_of_row _ _ _ _ _ _ (heap_alloc_last w6 _)]; rfl
  have D7 : Hid (Dk w7 p q 2 sD) := by rw [← hw7]; exact D6.out.below (allocB _ _)
  have E7 : Hid (Dk w7 p' q' 2 sC) := by rw [← hw7]; exact E6.out.below (allocB _ _)
  have B7 : Hid (Below z w w7) := by rw [← hw7]; exact B6.out.trans ((allocB _ _).mono (by have := B6.out.size; have := Z.out; omega))
  clear hw7 D6 E6 B6
  go_wp2_with fail
  refine (Read_no p' q' 2 sC 0 w7 E7.out (Or.inr rfl)).mono ?_
  rw [show rE 2 sC 0 = 4 by decide +kernel]
  rintro e w8 ⟨rfl, rfl⟩
  go_wp2_with (first | (go_at_call 20; refine (Lives_any p q 2 sD w7 D7.out).mono ?_; rintro e w9 ⟨rfl, rfl⟩) | (go_at_call 19; refine (Writes_any p q 2 sD w7 D7.out).mono ?_; rintro e w9 ⟨rfl, rfl⟩) | (go_at_call 22; refine (Sectors_any p q 2 sD w7 D7.out).mono ?_; rintro e w9 ⟨rfl, rfl⟩) | (go_at_call 18; refine (Power_any p q 2 sD w7 D7.out).mono ?_; rintro e w9 ⟨rfl, rfl⟩))
  go_ret
  exact ⟨rfl, by rw [Z.out]; exact B7.out⟩
end Go.Proofs.Ytidfgianbahjcaa
