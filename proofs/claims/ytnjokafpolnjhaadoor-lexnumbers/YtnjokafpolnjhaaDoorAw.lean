/- Cut at told texts; the law's own look that it is awake. -/
import Derived.Test.YtnjokafpolnjhaaDoorLd
namespace Go.Proofs.YtnjokafpolnjhaaDoor
open Go.RowKit
set_option linter.unusedVariables false
set_option linter.unusedSimpArgs false

theorem cut_yes (s : ByteArray) (R : List Wd) (w : World) (hs : s.size ≤ 8192) (hT : Tab w) (h : cutF s 0 = (R, none)) :
    Calls Tryd.prog 9 #[.string s] w fun e w' => (∃ v, e = .returned (.tuple #[v, .int .i64 0, .int .i64 0]) ∧ Rw w' w.heap.size 29 s v R) ∧ Below w.heap.size w w' :=
  (Cut_any s w hs hT).mono fun e w' ⟨hb, hm⟩ => by
    rw [h] at hm
    exact ⟨hm, hb⟩
theorem cut_no (s : ByteArray) (R : List Wd) (b : Nat) (w : World) (hs : s.size ≤ 8192) (hT : Tab w) (h : cutF s 0 = (R, some b)) :
    Calls Tryd.prog 9 #[.string s] w fun e w' => e = .returned (.tuple #[.slice none 0 0, .int .i64 (b : Nat), .int .i64 7]) ∧ Below w.heap.size w w' :=
  (Cut_any s w hs hT).mono fun e w' ⟨hb, hm⟩ => by
    rw [h] at hm
    exact ⟨hm, hb⟩
theorem kept_is (s : ByteArray) (B : Bool) (w : World) (h : keptB s.data.toList = B) : Calls Tryd.prog 12 #[.string s] w fun e w' => e = .returned (.bool B) ∧ w = w' := by
  have := kept_any s w
  rw [h] at this
  exact this
theorem aw1 : cutF ⟨#[36, 49, 46, 53, 48]⟩ 0 = ([(4, 5, 150, 0), (0, 0, 0, 5)], none) := by decide +kernel
theorem aw2 : cutF ⟨#[52, 46, 53, 37]⟩ 0 = ([(5, 4, 45000, 0), (0, 0, 0, 4)], none) := by decide +kernel
theorem aw3 : cutF ⟨#[50, 48, 50, 52, 45, 48, 49, 45, 48, 49]⟩ 0 = ([(6, 10, 45290, 0), (0, 0, 0, 10)], none) := by decide +kernel
theorem aw4 : cutF ⟨#[32, 64]⟩ 0 = ([], some 1) := by decide +kernel
set_option maxRecDepth 100000 in
set_option maxHeartbeats 4000000 in
theorem awake_any (w : World) (hT : Tab w) : Calls Tryd.prog 8 #[] w fun e w' => e = .returned (.bool true) ∧ Below w.heap.size w w' := by
  have TH := hid hT
  clear hT
  have K5 := hid fun w => kept_is ⟨#[109, 111, 110, 101, 121, 115]⟩ true w (by decide +kernel)
  have K6 := hid fun w => kept_is ⟨#[116, 97, 120]⟩ false w (by decide +kernel)
  go_enter Tryd.func8, Tryd.ntmps8
  go_wp2_with fail
  refine Calls.mono (cut_yes _ _ _ (by decide) TH.out aw1) ?_
  rintro e w1 ⟨⟨v1, rfl, o1⟩, b1⟩
  have T1 := hid <| TH.out.next b1
  have O1 := hid o1
  have B1 := hid b1
  clear o1 b1
  go_wp2_with fail
  refine Calls.mono (cut_yes _ _ _ (by decide) T1.out aw2) ?_
  rintro e w2 ⟨⟨v2, rfl, o2⟩, b2⟩
  have T2 := hid <| T1.out.next b2
  have P1 := hid <| O1.out.next b2
  have O2 := hid o2
  have B2 := hid <| nextB B1.out b2
  clear o2 b2 O1 B1 T1
  go_wp2_with fail
  refine Calls.mono (cut_yes _ _ _ (by decide) T2.out aw3) ?_
  rintro e w3 ⟨⟨v3, rfl, o3⟩, b3⟩
  have T3 := hid <| T2.out.next b3
  have Q1 := hid <| P1.out.next b3
  have P2 := hid <| O2.out.next b3
  have O3 := hid o3
  have B3 := hid <| nextB B2.out b3
  clear o3 b3 P1 O2 B2 T2
  go_wp2_with fail
  refine Calls.mono (cut_no _ _ _ _ (by decide) T3.out aw4) ?_
  rintro e w4 ⟨rfl, b4⟩
  obtain ⟨a1, c1, g1, r1⟩ := Rd4.of (Q1.out.next b4)
  obtain ⟨a2, c2, g2, r2⟩ := Rd4.of (P2.out.next b4)
  obtain ⟨a3, c3, g3, r3⟩ := Rd4.of (O3.out.next b4)
  have B4 := hid <| nextB B3.out b4
  obtain rfl := r1.v
  obtain rfl := r1.a (by decide)
  obtain rfl := r2.v
  obtain rfl := r2.a (by decide)
  obtain rfl := r3.v
  obtain rfl := r3.a (by decide)
  have e0 : w4.cell? ⟨g1, 0, none⟩ = some (.int .i64 4) := r1.c0 0 _ rfl
  have e1 : w4.cell? ⟨g1, 1, none⟩ = some (.string ⟨#[36, 49, 46, 53, 48]⟩) := r1.c1 0 _ rfl
  have e2 : w4.cell? ⟨g1, 2, none⟩ = some (.int .i64 150) := r1.c2 0 _ rfl
  have e3 : w4.cell? ⟨g1, 3, none⟩ = some (.int .i64 0) := r1.c3 0 _ rfl
  have f0 : w4.cell? ⟨g2, 0, none⟩ = some (.int .i64 5) := r2.c0 0 _ rfl
  have f2 : w4.cell? ⟨g2, 2, none⟩ = some (.int .i64 45000) := r2.c2 0 _ rfl
  have h0 : w4.cell? ⟨g3, 0, none⟩ = some (.int .i64 6) := r3.c0 0 _ rfl
  have h2 : w4.cell? ⟨g3, 2, none⟩ = some (.int .i64 45290) := r3.c2 0 _ rfl
  clear r1 r2 r3 b4 Q1 P2 O3 T3 TH B3
  go_wp2_with (first | (go_at_call 12; with_reducible refine Calls.mono (K5.out _) ?_; rintro e w' ⟨rfl, rfl⟩) | (go_at_call 12; with_reducible refine Calls.mono (K6.out _) ?_; rintro e w' ⟨rfl, rfl⟩))
  go_ret
  exact ⟨rfl, B4.out⟩
end Go.Proofs.YtnjokafpolnjhaaDoor
