/- The walks over code's Same, and over the laws' 'small' and 'great'. -/
import Derived.Test.YtcmifdnndckpcaaDoorDo
import Derived.Deep.DeepCutAuto
namespace Go.Proofs.YtcmifdnndckpcaaDoor
open Go.RowKit
set_option linter.unusedVariables false
set_option linter.unusedSimpArgs false

set_option maxRecDepth 100000 in
set_option maxHeartbeats 8000000 in
theorem code_Same_any (w : World) (v u : Value) (p q : PP) (hv : Pw w v p) (hu : Pw w u q) (lp : (bodyOf p).length ≤ 8000000) (lq : (bodyOf q).length ≤ 8000000) (hT : Tab w) :
    Calls Tryd.prog 14 #[v, u] w fun e w' => e = .returned (.bool (decide (bytesOf p = bytesOf q))) ∧ Below w.heap.size w w' := by
  have HV := hid hv
  have HU := hid hu
  obtain ⟨pa0, pm0, pc0, pa1, pm1, pc1, pa2, pm2, pc2, pa3, pm3, pc3, pa4, pm4, pc4, pa5, pm5, pc5, pa6, pm6, pc6, rfl, -⟩ := hv.ex
  obtain ⟨qa0, qm0, qc0, qa1, qm1, qc1, qa2, qm2, qc2, qa3, qm3, qc3, qa4, qm4, qc4, qa5, qm5, qc5, qa6, qm6, qc6, rfl, -⟩ := hu.ex
  have X1 := hid (Bx.new w #[.slice pa0 pm0 pc0, .slice pa1 pm1 pc1, .slice pa2 pm2 pc2, .slice pa3 pm3 pc3, .slice pa4 pm4 pc4, .slice pa5 pm5 pc5, .slice pa6 pm6 pc6] 29 (by decide))
  have B1 := hid (allocB w (.cells #[.slice pa0 pm0 pc0, .slice pa1 pm1 pc1, .slice pa2 pm2 pc2, .slice pa3 pm3 pc3, .slice pa4 pm4 pc4, .slice pa5 pm5 pc5, .slice pa6 pm6 pc6] 29))
  have X2 := hid (X1.out.next (allocB _ (.cells #[.slice qa0 qm0 qc0, .slice qa1 qm1 qc1, .slice qa2 qm2 qc2, .slice qa3 qm3 qc3, .slice qa4 qm4 qc4, .slice qa5 qm5 qc5, .slice qa6 qm6 qc6] 29)))
  have Y2 := hid (Bx.new (w.alloc (.cells #[.slice pa0 pm0 pc0, .slice pa1 pm1 pc1, .slice pa2 pm2 pc2, .slice pa3 pm3 pc3, .slice pa4 pm4 pc4, .slice pa5 pm5 pc5, .slice pa6 pm6 pc6] 29)) #[.slice qa0 qm0 qc0, .slice qa1 qm1 qc1, .slice qa2 qm2 qc2, .slice qa3 qm3 qc3, .slice qa4 qm4 qc4, .slice qa5 qm5 qc5, .slice qa6 qm6 qc6] 29 (by decide))
  rw [show (w.alloc (.cells #[.slice pa0 pm0 pc0, .slice pa1 pm1 pc1, .slice pa2 pm2 pc2, .slice pa3 pm3 pc3, .slice pa4 pm4 pc4, .slice pa5 pm5 pc5, .slice pa6 pm6 pc6] 29)).heap.size = w.heap.size + 1 by simp] at Y2
  have B2 := hid (nextB B1.out (allocB _ (.cells #[.slice qa0 qm0 qc0, .slice qa1 qm1 qc1, .slice qa2 qm2 qc2, .slice qa3 qm3 qc3, .slice qa4 qm4 qc4, .slice qa5 qm5 qc5, .slice qa6 qm6 qc6] 29)))
  have V2 := hid (HV.out.next B2.out)
  have U2 := hid (HU.out.next B2.out)
  have T2 := hid (hT.next B2.out)
  have LP := hid lp
  have LQ := hid lq
  clear hv hu lp lq hT X1 B1 HV HU
  go_enter Tryd.func14, Tryd.ntmps14
  go_upto_region 1 with fail
  obtain ⟨y, hy⟩ : ∃ y, y = w.heap.size + 1 := ⟨_, rfl⟩
  rw [← hy] at Y2 ⊢
  obtain ⟨x, hx⟩ : ∃ x, x = w.heap.size := ⟨_, rfl⟩
  rw [← hx] at X2 ⊢
  clear hx hy
  generalize World.alloc (World.alloc w _) _ = w2 at *
  refine wp_region_held_drew (S := fun W => Below w2.heap.size w2 W) (by kernel_rfl) (Below.refl _ _).drew (fun hHeld => ?_)
  have D2 := hid (show Below w2.heap.size w2 w2.drew from (Below.refl _ _).drew)
  generalize w2.drew = wz at *
  refine tk 0 (.agg #[.slice pa0 pm0 pc0, .slice pa1 pm1 pc1, .slice pa2 pm2 pc2, .slice pa3 pm3 pc3, .slice pa4 pm4 pc4, .slice pa5 pm5 pc5, .slice pa6 pm6 pc6]) 5 rfl rfl rfl (by kernel_rfl) (fun _ _ _ h => h) (by rfl) hHeld ?_ ?_
  · (intro W hW; (try dsimp only at hW); have c0 := (X2.out.next hW).cell 0 _ rfl; have c1 := (X2.out.next hW).cell 1 _ rfl; have c2 := (X2.out.next hW).cell 2 _ rfl; have c3 := (X2.out.next hW).cell 3 _ rfl; have c4 := (X2.out.next hW).cell 4 _ rfl; have c5 := (X2.out.next hW).cell 5 _ rfl; have c6 := (X2.out.next hW).cell 6 _ rfl; go_simp)
  try simp only [Act.put, List.setIfInBounds_toArray, List.set_cons_zero, List.set_cons_succ]
  refine tk 2 (.agg #[.slice qa0 qm0 qc0, .slice qa1 qm1 qc1, .slice qa2 qm2 qc2, .slice qa3 qm3 qc3, .slice qa4 qm4 qc4, .slice qa5 qm5 qc5, .slice qa6 qm6 qc6]) 7 rfl rfl rfl (by kernel_rfl) (fun _ _ _ h => h) (by rfl) hHeld ?_ ?_
  · (intro W hW; (try dsimp only at hW); have c0 := (Y2.out.next hW).cell 0 _ rfl; have c1 := (Y2.out.next hW).cell 1 _ rfl; have c2 := (Y2.out.next hW).cell 2 _ rfl; have c3 := (Y2.out.next hW).cell 3 _ rfl; have c4 := (Y2.out.next hW).cell 4 _ rfl; have c5 := (Y2.out.next hW).cell 5 _ rfl; have c6 := (Y2.out.next hW).cell 6 _ rfl; go_simp)
  try simp only [Act.put, List.setIfInBounds_toArray, List.set_cons_zero, List.set_cons_succ]
  refine wpAnyH_ready (rs := [1]) (by kernel_rfl) (by simp) ?_
  refine cons2 rfl rfl (fun K9 hK => ?_)
  go_simp
  refine Calls.mono (code_Encode_any wz _ p (V2.out.next D2.out) LP.out (T2.out.next D2.out)) ?_
  rintro e w4 ⟨⟨v4, rfl, o4⟩, b4⟩
  have O4 := hid o4
  have D4 := hid (nextB D2.out b4)
  clear o4 b4
  go_wp2_with fail
  refine hK.out _ _ D4.out (fun hX => ?_)
  clear hK K9 hHeld
  have hHeld := hX
  clear hX
  try simp only [Act.put, List.setIfInBounds_toArray, List.set_cons_zero, List.set_cons_succ]
  refine wpAnyH_ready (rs := [3]) (by kernel_rfl) (by simp) ?_
  refine cons2 rfl rfl (fun K9 hK => ?_)
  go_simp
  refine Calls.mono (code_Encode_any w4 _ q (U2.out.next D4.out) LQ.out (T2.out.next D4.out)) ?_
  rintro e w5 ⟨⟨v5, rfl, o5⟩, b5⟩
  have D5 := hid (nextB D4.out b5)
  obtain ⟨ea, en, ec, rfl, ey⟩ : ∃ a n c, v4 = .slice a n c ∧ By w4 a n c (bytesOf p) := by
    obtain ⟨a, c, e, y, -, -⟩ := O4.out.by
    exact ⟨a, _, c, e, y⟩
  obtain ⟨fa, fn, fc, rfl, fy⟩ : ∃ a n c, v5 = .slice a n c ∧ By w5 a n c (bytesOf q) := by
    obtain ⟨a, c, e, y, -, -⟩ := o5.by
    exact ⟨a, _, c, e, y⟩
  have KE := hid (bytesEqual_any w5 (ey.below b5) fy)
  clear o5 b5 O4 ey fy
  go_wp2_with fail
  refine hK.out _ _ D5.out (fun hX => ?_)
  clear hK K9 hHeld
  have hHeld := hX
  clear hX
  try simp only [Act.put, List.setIfInBounds_toArray, List.set_cons_zero, List.set_cons_succ]
  refine wpAnyH_ready (rs := [4]) (by kernel_rfl) (by simp) ?_
  refine cons2 rfl rfl (fun K9 hK => ?_)
  go_simp
  refine Calls.mono KE.out ?_
  rintro e w6 ⟨rfl, rfl⟩
  go_wp2_with fail
  refine hK.out _ _ D5.out (fun hX => ?_)
  clear hK K9 hHeld
  have hHeld := hX
  clear hX
  try simp only [Act.put, List.setIfInBounds_toArray, List.set_cons_zero, List.set_cons_succ]
  refine tk 5 (.bool (decide (bytesOf p = bytesOf q))) 4 rfl rfl rfl (by kernel_rfl) (fun _ _ _ h => h) (by rfl) hHeld ?_ ?_
  · (intro W hW; (try dsimp only at hW); go_simp)
  try simp only [Act.put, List.setIfInBounds_toArray, List.set_cons_zero, List.set_cons_succ]
  refine wpAnyH_done (by kernel_rfl) ?_ _
  go_wp2_with fail
  go_ret
  exact ⟨rfl, nextB B2.out D5.out⟩

/-- A program that is not more than is asked of. -/
structure Small (p : PP) : Prop where
  l0 : p.1.length ≤ 1100
  l1 : p.2.1.length ≤ 70
  l2 : p.2.2.1.length ≤ 70
  l3 : p.2.2.2.1.length ≤ 70
  l4 : p.2.2.2.2.1.length ≤ 70
  l5 : p.2.2.2.2.2.1.length ≤ 70
  l6 : p.2.2.2.2.2.2.length ≤ 400
  ts : ∀ t ∈ p.2.1, t.2.2.1.length ≤ 50 ∧ t.2.2.2.length ≤ 50
  ns : ∀ s ∈ p.2.2.2.2.2.1, s.length ≤ 200
/-- What 'great' answers. -/
def GtP (p : PP) (w : World) (e : Ending) (w' : World) : Prop := ∃ b, e = .returned (.bool b) ∧ Below w.heap.size w w' ∧ (b = false → Small p)
theorem take_all {α : Type} {Q : α → Prop} {xs : List α} {i : Nat} {x : α} (h : ∀ y ∈ xs.take i, Q y) (e : xs.take (i + 1) = xs.take i ++ [x]) (q : Q x) : ∀ y ∈ xs.take (i + 1), Q y := by
  intro y hy
  rw [e] at hy
  simp only [List.mem_append, List.mem_singleton] at hy
  rcases hy with hy | rfl
  · exact h y hy
  · exact q
set_option maxRecDepth 100000 in
set_option maxHeartbeats 8000000 in
theorem great_any (w : World) (v : Value) (p : PP) (hp : Pw w v p) : Calls Tryd.prog 11 #[v] w fun e w' => GtP p w e w' := by
  obtain ⟨p0, p1, p2, p3, p4, p5, p6⟩ := p
  obtain ⟨a0, m0, c0, a1, m1, c1, a2, m2, c2, a3, m3, c3, a4, m4, c4, a5, m5, c5, a6, m6, c6, rfl, h0, h1, h2, h3, h4, h5, h6⟩ := hp.ex
  have B1 := hid (allocB w (.cells #[.slice a0 m0 c0, .slice a1 m1 c1, .slice a2 m2 c2, .slice a3 m3 c3, .slice a4 m4 c4, .slice a5 m5 c5, .slice a6 m6 c6] 29))
  have X1 := hid (Bx.new w #[.slice a0 m0 c0, .slice a1 m1 c1, .slice a2 m2 c2, .slice a3 m3 c3, .slice a4 m4 c4, .slice a5 m5 c5, .slice a6 m6 c6] 29 (by decide))
  have L0 := hid (show p0.length = m0 from h0.len)
  have L1 := hid (show p1.length = m1 from h1.len)
  have L2 := hid (show p2.length = m2 from h2.len)
  have L3 := hid (show p3.length = m3 from h3.len)
  have L4 := hid (show p4.length = m4 from h4.len)
  have L5 := hid (show p5.length = m5 from h5.len)
  have L6 := hid (show p6.length = m6 from h6.len)
  have V1 := hid (show Vw aT 4 _ a1 m1 p1 from h1.next aT_nx B1.out)
  have V5 := hid (show Vw aS 1 _ a5 m5 p5 from h5.next aS_nx B1.out)
  clear hp h0 h1 h2 h3 h4 h5 h6
  go_enter Tryd.func11, Tryd.ntmps11
  go_upto_region 1 with fail
  obtain ⟨x, hx⟩ : ∃ x, x = w.heap.size := ⟨_, rfl⟩
  rw [← hx] at X1 ⊢
  clear hx
  generalize World.alloc w _ = w1 at *
  have d0 := X1.out.cell 0 _ rfl
  have d1 := X1.out.cell 1 _ rfl
  have d2 := X1.out.cell 2 _ rfl
  have d3 := X1.out.cell 3 _ rfl
  have d4 := X1.out.cell 4 _ rfl
  have d5 := X1.out.cell 5 _ rfl
  have d6 := X1.out.cell 6 _ rfl
  by_cases g0 : 1100 < m0
  · have g0' : (1100 : Int) < (m0 : Int) := by omega
    go_wp2_with fail
    go_ret
    exact ⟨true, rfl, B1.out, fun h => by cases h⟩
  have n0 : ¬ (1100 : Int) < (m0 : Int) := by omega
  by_cases g1 : 70 < m1
  · have g1' : (70 : Int) < (m1 : Int) := by omega
    go_wp2_with fail
    go_ret
    exact ⟨true, rfl, B1.out, fun h => by cases h⟩
  have n1 : ¬ (70 : Int) < (m1 : Int) := by omega
  by_cases g2 : 70 < m2
  · have g2' : (70 : Int) < (m2 : Int) := by omega
    go_wp2_with fail
    go_ret
    exact ⟨true, rfl, B1.out, fun h => by cases h⟩
  have n2 : ¬ (70 : Int) < (m2 : Int) := by omega
  by_cases g3 : 70 < m3
  · have g3' : (70 : Int) < (m3 : Int) := by omega
    go_wp2_with fail
    go_ret
    exact ⟨true, rfl, B1.out, fun h => by cases h⟩
  have n3 : ¬ (70 : Int) < (m3 : Int) := by omega
  by_cases g4 : 70 < m4
  · have g4' : (70 : Int) < (m4 : Int) := by omega
    go_wp2_with fail
    go_ret
    exact ⟨true, rfl, B1.out, fun h => by cases h⟩
  have n4 : ¬ (70 : Int) < (m4 : Int) := by omega
  by_cases g5 : 70 < m5
  · have g5' : (70 : Int) < (m5 : Int) := by omega
    go_wp2_with fail
    go_ret
    exact ⟨true, rfl, B1.out, fun h => by cases h⟩
  have n5 : ¬ (70 : Int) < (m5 : Int) := by omega
  by_cases g6 : 400 < m6
  · have g6' : (400 : Int) < (m6 : Int) := by omega
    go_wp2_with fail
    go_ret
    exact ⟨true, rfl, B1.out, fun h => by cases h⟩
  have n6 : ¬ (400 : Int) < (m6 : Int) := by omega
  have GG := hid (show m0 ≤ 1100 ∧ m1 ≤ 70 ∧ m2 ≤ 70 ∧ m3 ≤ 70 ∧ m4 ≤ 70 ∧ m5 ≤ 70 ∧ m6 ≤ 400 from by omega)
  clear g0 g1 g2 g3 g4 g5 g6
  go_upto_region 3 with fail
  clear n0 n1 n2 n3 n4 n5 n6
  have m1b : m1 ≤ 70 := GG.out.2.1
  have m5b : m5 ≤ 70 := GG.out.2.2.2.2.2.1
  go_wp2_with fail
  go_loopg [3] m1 (fun g kv wr => ∃ i : Nat, i ≤ m1 ∧ g = m1 - i ∧ kv = .int .i64 (i : Nat) ∧ w1 = wr ∧ Hid (∀ t ∈ p1.take i, t.2.2.1.length ≤ 50 ∧ t.2.2.2.length ≤ 50))
  case atStart => exact ⟨0, Nat.zero_le _, rfl, rfl, rfl, hid (fun t h => by simp at h)⟩
  case round =>
    obtain ⟨i, hi, rfl, rfl, rfl, hI⟩ := hrel
    by_cases q : i < m1
    · have q' : (i : Int) < (m1 : Int) := by omega
      obtain ⟨g, o, t, rfl, hx, hA, ht⟩ := V1.out.get q
      obtain ⟨e0, e1, ok0, ok1, ⟨ka, kc, e2, vk⟩, ⟨va, vc, e3, vv⟩⟩ := hA
      have HT := hid ht
      clear ok0 ok1 vk vv hx ht e0 e1
      generalize hk : t.2.2.1.length = kn at *
      generalize hv : t.2.2.2.length = vn at *
      have HK := hid hk
      have HV := hid hv
      clear hk hv
      by_cases g1 : 50 < kn
      · have g1' : (50 : Int) < (kn : Int) := by omega
        go_wp2_with fail
        go_ret
        exact ⟨true, rfl, B1.out, fun h => by cases h⟩
      have n1 : ¬ (50 : Int) < (kn : Int) := by omega
      by_cases g2 : 50 < vn
      · have g2' : (50 : Int) < (vn : Int) := by omega
        go_wp2_with fail
        go_ret
        exact ⟨true, rfl, B1.out, fun h => by cases h⟩
      have n2 : ¬ (50 : Int) < (vn : Int) := by omega
      have HQ := hid (show t.2.2.1.length ≤ 50 ∧ t.2.2.2.length ≤ 50 from by rw [HK.out, HV.out]; omega)
      clear g1 g2
      go_wp2_with fail
      go_roundg (m1 - (i + 1))
      case measure => omega
      case rel => exact ⟨i + 1, by omega, rfl, by rw [Int.natCast_add]; rfl, rfl, hid (take_all hI.out HT.out HQ.out)⟩
    · have q' : ¬ (i : Int) < (m1 : Int) := by omega
      have HT1 := hid (show ∀ t ∈ p1, t.2.2.1.length ≤ 50 ∧ t.2.2.2.length ≤ 50 from by
        have := hI.out
        rw [List.take_of_length_le (by rw [L1.out]; omega)] at this
        exact this)
      clear hI
      go_wp2_with fail
      go_loopg [4] m5 (fun g kv wr => ∃ i : Nat, i ≤ m5 ∧ g = m5 - i ∧ kv = .int .i64 (i : Nat) ∧ w1 = wr ∧ Hid (∀ t ∈ p5.take i, t.length ≤ 200))
      case atStart => exact ⟨0, Nat.zero_le _, rfl, rfl, rfl, hid (fun t h => by simp at h)⟩
      case round =>
        obtain ⟨k, hk, rfl, rfl, rfl, hI⟩ := hrel
        by_cases q2 : k < m5
        · have q2' : (k : Int) < (m5 : Int) := by omega
          obtain ⟨g, o, t, rfl, hx, hA, ht⟩ := V5.out.get q2
          rw [Nat.mul_one] at hA
          obtain ⟨s, e0, rfl, sz⟩ := hA
          have HT := hid ht
          clear hx ht sz
          by_cases g1 : 200 < s.size
          · have g1' : (200 : Int) < (s.size : Int) := by omega
            go_wp2_with fail
            go_ret
            exact ⟨true, rfl, B1.out, fun h => by cases h⟩
          have n1 : ¬ (200 : Int) < (s.size : Int) := by omega
          have HQ := hid (show (nums s).length ≤ 200 from by rw [nums_len]; omega)
          clear g1
          go_wp2_with fail
          go_roundg (m5 - (k + 1))
          case measure => omega
          case rel => exact ⟨k + 1, by omega, rfl, by rw [Int.natCast_add]; rfl, rfl, hid (take_all hI.out HT.out HQ.out)⟩
        · have q2' : ¬ (k : Int) < (m5 : Int) := by omega
          have HT5 := hid (show ∀ t ∈ p5, t.length ≤ 200 from by
            have := hI.out
            rw [List.take_of_length_le (by rw [L5.out]; omega)] at this
            exact this)
          clear hI
          go_wp2_with fail
          go_ret
          obtain ⟨k0, k1, k2, k3, k4, k5, k6⟩ := GG.out
          exact ⟨false, rfl, B1.out, fun _ => ⟨by have := L0.out; show p0.length ≤ _; omega, by have := L1.out; show p1.length ≤ _; omega, by have := L2.out; show p2.length ≤ _; omega, by have := L3.out; show p3.length ≤ _; omega, by have := L4.out; show p4.length ≤ _; omega, by have := L5.out; show p5.length ≤ _; omega, by have := L6.out; show p6.length ≤ _; omega, HT1.out, HT5.out⟩⟩

end Go.Proofs.YtcmifdnndckpcaaDoor
