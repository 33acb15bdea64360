/- The walks over verify's lists and over what it calls, for programs without constants and tables. -/
import Derived.Test.YtjkbiglnpoeddaaDoorVfw
namespace Go.Proofs.YtjkbiglnpoeddaaDoor.Vf
open Go.RowKit
set_option linter.unusedVariables false
set_option linter.unusedSimpArgs false

def rmB (s : S7) : Bool := decide (s.m0 ≤ 1024) && decide (s.m1 ≤ 64) && decide (s.m2 ≤ 64) && decide (s.m3 ≤ 64) && decide (s.m4 ≤ 64) && decide (1 ≤ s.m6) && decide (s.m6 ≤ 4096) && decide (s.m5 = s.m3)
set_option maxRecDepth 100000 in
set_option maxHeartbeats 8000000 in
theorem hasRoom_any (w : World) (s : S7) : Calls Tryd.prog 15 #[.agg #[.slice s.a0 s.m0 s.c0, .slice s.a1 s.m1 s.c1, .slice s.a2 s.m2 s.c2, .slice s.a3 s.m3 s.c3, .slice s.a4 s.m4 s.c4, .slice s.a5 s.m5 s.c5, .slice s.a6 s.m6 s.c6]] w fun e w' => e = .returned (.bool (rmB s)) ∧ Below w.heap.size w w' := by
  have X1 := hid (Bx.new w #[.slice s.a0 s.m0 s.c0, .slice s.a1 s.m1 s.c1, .slice s.a2 s.m2 s.c2, .slice s.a3 s.m3 s.c3, .slice s.a4 s.m4 s.c4, .slice s.a5 s.m5 s.c5, .slice s.a6 s.m6 s.c6] 35 (by decide))
  have B1 := hid (allocB w (.cells #[.slice s.a0 s.m0 s.c0, .slice s.a1 s.m1 s.c1, .slice s.a2 s.m2 s.c2, .slice s.a3 s.m3 s.c3, .slice s.a4 s.m4 s.c4, .slice s.a5 s.m5 s.c5, .slice s.a6 s.m6 s.c6] 35))
  obtain ⟨pb, hpb⟩ : ∃ pb, pb = w.heap.size := ⟨_, rfl⟩
  have WP := hid hpb
  rw [← hpb] at X1
  clear hpb
  by_cases q0 : s.m0 ≤ 1024
  · have d0 : (s.m0 : Int) ≤ 1024 := by omega
    by_cases q1 : s.m1 ≤ 64
    · have d1 : (s.m1 : Int) ≤ 64 := by omega
      by_cases q2 : s.m2 ≤ 64
      · have d2 : (s.m2 : Int) ≤ 64 := by omega
        by_cases q3 : s.m3 ≤ 64
        · have d3 : (s.m3 : Int) ≤ 64 := by omega
          by_cases q4 : s.m4 ≤ 64
          · have d4 : (s.m4 : Int) ≤ 64 := by omega
            by_cases q5 : 1 ≤ s.m6
            · have d5 : (1 : Int) ≤ (s.m6 : Int) := by omega
              by_cases q6 : s.m6 ≤ 4096
              · have d6 : (s.m6 : Int) ≤ 4096 := by omega
                by_cases q7 : s.m5 = s.m3
                · have d7 : ((s.m5 : Int) == (s.m3 : Int)) = true := by simp; omega
                  have HV := hid (show rmB s = true from by simp [rmB, q0, q1, q2, q3, q4, q5, q6, q7])
                  clear q7
                  go_enter Tryd.func15, Tryd.ntmps15
                  go_upto_region 1 with fail
                  rw [← WP.out]
                  generalize World.alloc w _ = w1 at *
                  have c0 : w1.cell? ⟨pb, 0, none⟩ = some (.slice s.a0 s.m0 s.c0) := X1.out.cell 0 _ rfl
                  have c1 : w1.cell? ⟨pb, 1, none⟩ = some (.slice s.a1 s.m1 s.c1) := X1.out.cell 1 _ rfl
                  have c2 : w1.cell? ⟨pb, 2, none⟩ = some (.slice s.a2 s.m2 s.c2) := X1.out.cell 2 _ rfl
                  have c3 : w1.cell? ⟨pb, 3, none⟩ = some (.slice s.a3 s.m3 s.c3) := X1.out.cell 3 _ rfl
                  have c4 : w1.cell? ⟨pb, 4, none⟩ = some (.slice s.a4 s.m4 s.c4) := X1.out.cell 4 _ rfl
                  have c5 : w1.cell? ⟨pb, 5, none⟩ = some (.slice s.a5 s.m5 s.c5) := X1.out.cell 5 _ rfl
                  have c6 : w1.cell? ⟨pb, 6, none⟩ = some (.slice s.a6 s.m6 s.c6) := X1.out.cell 6 _ rfl
                  go_wp2_with fail
                  go_ret
                  exact ⟨by rw [HV.out]; rfl, B1.out⟩
                · have d7 : ((s.m5 : Int) == (s.m3 : Int)) = false := by simp; omega
                  have HV := hid (show rmB s = false from by simp [rmB, q7])
                  clear q7
                  go_enter Tryd.func15, Tryd.ntmps15
                  go_upto_region 1 with fail
                  rw [← WP.out]
                  generalize World.alloc w _ = w1 at *
                  have c0 : w1.cell? ⟨pb, 0, none⟩ = some (.slice s.a0 s.m0 s.c0) := X1.out.cell 0 _ rfl
                  have c1 : w1.cell? ⟨pb, 1, none⟩ = some (.slice s.a1 s.m1 s.c1) := X1.out.cell 1 _ rfl
                  have c2 : w1.cell? ⟨pb, 2, none⟩ = some (.slice s.a2 s.m2 s.c2) := X1.out.cell 2 _ rfl
                  have c3 : w1.cell? ⟨pb, 3, none⟩ = some (.slice s.a3 s.m3 s.c3) := X1.out.cell 3 _ rfl
                  have c4 : w1.cell? ⟨pb, 4, none⟩ = some (.slice s.a4 s.m4 s.c4) := X1.out.cell 4 _ rfl
                  have c5 : w1.cell? ⟨pb, 5, none⟩ = some (.slice s.a5 s.m5 s.c5) := X1.out.cell 5 _ rfl
                  have c6 : w1.cell? ⟨pb, 6, none⟩ = some (.slice s.a6 s.m6 s.c6) := X1.out.cell 6 _ rfl
                  go_wp2_with fail
                  go_ret
                  exact ⟨by rw [HV.out]; rfl, B1.out⟩
              · have d6 : decide ((s.m6 : Int) ≤ 4096) = false := decide_eq_false (by omega)
                have HV := hid (show rmB s = false from by simp [rmB, q6])
                clear q6
                go_enter Tryd.func15, Tryd.ntmps15
                go_upto_region 1 with fail
                rw [← WP.out]
                generalize World.alloc w _ = w1 at *
                have c0 : w1.cell? ⟨pb, 0, none⟩ = some (.slice s.a0 s.m0 s.c0) := X1.out.cell 0 _ rfl
                have c1 : w1.cell? ⟨pb, 1, none⟩ = some (.slice s.a1 s.m1 s.c1) := X1.out.cell 1 _ rfl
                have c2 : w1.cell? ⟨pb, 2, none⟩ = some (.slice s.a2 s.m2 s.c2) := X1.out.cell 2 _ rfl
                have c3 : w1.cell? ⟨pb, 3, none⟩ = some (.slice s.a3 s.m3 s.c3) := X1.out.cell 3 _ rfl
                have c4 : w1.cell? ⟨pb, 4, none⟩ = some (.slice s.a4 s.m4 s.c4) := X1.out.cell 4 _ rfl
                have c5 : w1.cell? ⟨pb, 5, none⟩ = some (.slice s.a5 s.m5 s.c5) := X1.out.cell 5 _ rfl
                have c6 : w1.cell? ⟨pb, 6, none⟩ = some (.slice s.a6 s.m6 s.c6) := X1.out.cell 6 _ rfl
                go_wp2_with fail
                go_ret
                exact ⟨by rw [HV.out]; rfl, B1.out⟩
            · have d5 : decide ((1 : Int) ≤ (s.m6 : Int)) = false := decide_eq_false (by omega)
              have HV := hid (show rmB s = false from by simp [rmB, q5])
              clear q5
              go_enter Tryd.func15, Tryd.ntmps15
              go_upto_region 1 with fail
              rw [← WP.out]
              generalize World.alloc w _ = w1 at *
              have c0 : w1.cell? ⟨pb, 0, none⟩ = some (.slice s.a0 s.m0 s.c0) := X1.out.cell 0 _ rfl
              have c1 : w1.cell? ⟨pb, 1, none⟩ = some (.slice s.a1 s.m1 s.c1) := X1.out.cell 1 _ rfl
              have c2 : w1.cell? ⟨pb, 2, none⟩ = some (.slice s.a2 s.m2 s.c2) := X1.out.cell 2 _ rfl
              have c3 : w1.cell? ⟨pb, 3, none⟩ = some (.slice s.a3 s.m3 s.c3) := X1.out.cell 3 _ rfl
              have c4 : w1.cell? ⟨pb, 4, none⟩ = some (.slice s.a4 s.m4 s.c4) := X1.out.cell 4 _ rfl
              have c5 : w1.cell? ⟨pb, 5, none⟩ = some (.slice s.a5 s.m5 s.c5) := X1.out.cell 5 _ rfl
              have c6 : w1.cell? ⟨pb, 6, none⟩ = some (.slice s.a6 s.m6 s.c6) := X1.out.cell 6 _ rfl
              go_wp2_with fail
              go_ret
              exact ⟨by rw [HV.out]; rfl, B1.out⟩
          · have d4 : decide ((s.m4 : Int) ≤ 64) = false := decide_eq_false (by omega)
            have HV := hid (show rmB s = false from by simp [rmB, q4])
            clear q4
            go_enter Tryd.func15, Tryd.ntmps15
            go_upto_region 1 with fail
            rw [← WP.out]
            generalize World.alloc w _ = w1 at *
            have c0 : w1.cell? ⟨pb, 0, none⟩ = some (.slice s.a0 s.m0 s.c0) := X1.out.cell 0 _ rfl
            have c1 : w1.cell? ⟨pb, 1, none⟩ = some (.slice s.a1 s.m1 s.c1) := X1.out.cell 1 _ rfl
            have c2 : w1.cell? ⟨pb, 2, none⟩ = some (.slice s.a2 s.m2 s.c2) := X1.out.cell 2 _ rfl
            have c3 : w1.cell? ⟨pb, 3, none⟩ = some (.slice s.a3 s.m3 s.c3) := X1.out.cell 3 _ rfl
            have c4 : w1.cell? ⟨pb, 4, none⟩ = some (.slice s.a4 s.m4 s.c4) := X1.out.cell 4 _ rfl
            have c5 : w1.cell? ⟨pb, 5, none⟩ = some (.slice s.a5 s.m5 s.c5) := X1.out.cell 5 _ rfl
            have c6 : w1.cell? ⟨pb, 6, none⟩ = some (.slice s.a6 s.m6 s.c6) := X1.out.cell 6 _ rfl
            go_wp2_with fail
            go_ret
            exact ⟨by rw [HV.out]; rfl, B1.out⟩
        · have d3 : decide ((s.m3 : Int) ≤ 64) = false := decide_eq_false (by omega)
          have HV := hid (show rmB s = false from by simp [rmB, q3])
          clear q3
          go_enter Tryd.func15, Tryd.ntmps15
          go_upto_region 1 with fail
          rw [← WP.out]
          generalize World.alloc w _ = w1 at *
          have c0 : w1.cell? ⟨pb, 0, none⟩ = some (.slice s.a0 s.m0 s.c0) := X1.out.cell 0 _ rfl
          have c1 : w1.cell? ⟨pb, 1, none⟩ = some (.slice s.a1 s.m1 s.c1) := X1.out.cell 1 _ rfl
          have c2 : w1.cell? ⟨pb, 2, none⟩ = some (.slice s.a2 s.m2 s.c2) := X1.out.cell 2 _ rfl
          have c3 : w1.cell? ⟨pb, 3, none⟩ = some (.slice s.a3 s.m3 s.c3) := X1.out.cell 3 _ rfl
          have c4 : w1.cell? ⟨pb, 4, none⟩ = some (.slice s.a4 s.m4 s.c4) := X1.out.cell 4 _ rfl
          have c5 : w1.cell? ⟨pb, 5, none⟩ = some (.slice s.a5 s.m5 s.c5) := X1.out.cell 5 _ rfl
          have c6 : w1.cell? ⟨pb, 6, none⟩ = some (.slice s.a6 s.m6 s.c6) := X1.out.cell 6 _ rfl
          go_wp2_with fail
          go_ret
          exact ⟨by rw [HV.out]; rfl, B1.out⟩
      · have d2 : decide ((s.m2 : Int) ≤ 64) = false := decide_eq_false (by omega)
        have HV := hid (show rmB s = false from by simp [rmB, q2])
        clear q2
        go_enter Tryd.func15, Tryd.ntmps15
        go_upto_region 1 with fail
        rw [← WP.out]
        generalize World.alloc w _ = w1 at *
        have c0 : w1.cell? ⟨pb, 0, none⟩ = some (.slice s.a0 s.m0 s.c0) := X1.out.cell 0 _ rfl
        have c1 : w1.cell? ⟨pb, 1, none⟩ = some (.slice s.a1 s.m1 s.c1) := X1.out.cell 1 _ rfl
        have c2 : w1.cell? ⟨pb, 2, none⟩ = some (.slice s.a2 s.m2 s.c2) := X1.out.cell 2 _ rfl
        have c3 : w1.cell? ⟨pb, 3, none⟩ = some (.slice s.a3 s.m3 s.c3) := X1.out.cell 3 _ rfl
        have c4 : w1.cell? ⟨pb, 4, none⟩ = some (.slice s.a4 s.m4 s.c4) := X1.out.cell 4 _ rfl
        have c5 : w1.cell? ⟨pb, 5, none⟩ = some (.slice s.a5 s.m5 s.c5) := X1.out.cell 5 _ rfl
        have c6 : w1.cell? ⟨pb, 6, none⟩ = some (.slice s.a6 s.m6 s.c6) := X1.out.cell 6 _ rfl
        go_wp2_with fail
        go_ret
        exact ⟨by rw [HV.out]; rfl, B1.out⟩
    · have d1 : decide ((s.m1 : Int) ≤ 64) = false := decide_eq_false (by omega)
      have HV := hid (show rmB s = false from by simp [rmB, q1])
      clear q1
      go_enter Tryd.func15, Tryd.ntmps15
      go_upto_region 1 with fail
      rw [← WP.out]
      generalize World.alloc w _ = w1 at *
      have c0 : w1.cell? ⟨pb, 0, none⟩ = some (.slice s.a0 s.m0 s.c0) := X1.out.cell 0 _ rfl
      have c1 : w1.cell? ⟨pb, 1, none⟩ = some (.slice s.a1 s.m1 s.c1) := X1.out.cell 1 _ rfl
      have c2 : w1.cell? ⟨pb, 2, none⟩ = some (.slice s.a2 s.m2 s.c2) := X1.out.cell 2 _ rfl
      have c3 : w1.cell? ⟨pb, 3, none⟩ = some (.slice s.a3 s.m3 s.c3) := X1.out.cell 3 _ rfl
      have c4 : w1.cell? ⟨pb, 4, none⟩ = some (.slice s.a4 s.m4 s.c4) := X1.out.cell 4 _ rfl
      have c5 : w1.cell? ⟨pb, 5, none⟩ = some (.slice s.a5 s.m5 s.c5) := X1.out.cell 5 _ rfl
      have c6 : w1.cell? ⟨pb, 6, none⟩ = some (.slice s.a6 s.m6 s.c6) := X1.out.cell 6 _ rfl
      go_wp2_with fail
      go_ret
      exact ⟨by rw [HV.out]; rfl, B1.out⟩
  · have d0 : decide ((s.m0 : Int) ≤ 1024) = false := decide_eq_false (by omega)
    have HV := hid (show rmB s = false from by simp [rmB, q0])
    clear q0
    go_enter Tryd.func15, Tryd.ntmps15
    go_upto_region 1 with fail
    rw [← WP.out]
    generalize World.alloc w _ = w1 at *
    have c0 : w1.cell? ⟨pb, 0, none⟩ = some (.slice s.a0 s.m0 s.c0) := X1.out.cell 0 _ rfl
    have c1 : w1.cell? ⟨pb, 1, none⟩ = some (.slice s.a1 s.m1 s.c1) := X1.out.cell 1 _ rfl
    have c2 : w1.cell? ⟨pb, 2, none⟩ = some (.slice s.a2 s.m2 s.c2) := X1.out.cell 2 _ rfl
    have c3 : w1.cell? ⟨pb, 3, none⟩ = some (.slice s.a3 s.m3 s.c3) := X1.out.cell 3 _ rfl
    have c4 : w1.cell? ⟨pb, 4, none⟩ = some (.slice s.a4 s.m4 s.c4) := X1.out.cell 4 _ rfl
    have c5 : w1.cell? ⟨pb, 5, none⟩ = some (.slice s.a5 s.m5 s.c5) := X1.out.cell 5 _ rfl
    have c6 : w1.cell? ⟨pb, 6, none⟩ = some (.slice s.a6 s.m6 s.c6) := X1.out.cell 6 _ rfl
    go_wp2_with fail
    go_ret
    exact ⟨by rw [HV.out]; rfl, B1.out⟩
def badK (last k : Int) : Bool := decide (k < 1) || decide (last < k)
def akB (l : List Int) (last : Int) : Bool := !(l.any (badK last))
set_option maxRecDepth 100000 in
set_option maxHeartbeats 8000000 in
theorem areKinds1_any {w : World} {lb : Nat} {last : Int} (hl : w.cell? ⟨lb, 0, none⟩ = some (.int .i64 last)) (k : Int) : Calls Tryd.prog 38 #[.int .i64 k, .pointer (some ⟨lb, 0, none⟩)] w fun e w' => e = .returned (.bool (badK last k)) ∧ Below w.heap.size w w' := by
  unfold badK
  by_cases q0 : k < 1
  · rw [decide_eq_true q0]
    go_enter Tryd.func38, Tryd.ntmps38
    go_wp2_with fail
    go_ret
    exact ⟨rfl, Below.refl _ _⟩
  · rw [decide_eq_false q0]
    have d0 : decide (k < 1) = false := decide_eq_false q0
    by_cases q1 : last < k
    · rw [decide_eq_true q1]
      clear q0
      go_enter Tryd.func38, Tryd.ntmps38
      go_wp2_with fail
      go_ret
      exact ⟨rfl, Below.refl _ _⟩
    · rw [decide_eq_false q1]
      have d1 : decide (last < k) = false := decide_eq_false q1
      clear q0 q1
      go_enter Tryd.func38, Tryd.ntmps38
      go_wp2_with fail
      go_ret
      exact ⟨rfl, Below.refl _ _⟩
set_option maxRecDepth 100000 in
set_option maxHeartbeats 8000000 in
theorem IFKind_any {w : World} {lb : Nat} {last : Int} {a : Option Addr} {m c : Nat} {l : List Int} (hl : w.cell? ⟨lb, 0, none⟩ = some (.int .i64 last)) (hV : Vw aI 1 w a m l) (hm : m ≤ 1000000) :
    Calls Tryd.prog 54 #[.slice a m c, .func (.func 38) #[] #[.pointer (some ⟨lb, 0, none⟩)]] w fun e w' => ∃ n : Int, e = .returned (.int .i64 n) ∧ decide (0 ≤ n) = l.any (badK last) ∧ Below w.heap.size w w' := by
  have V := hid hV
  have HL := hid hl
  have mb : (m : Int) ≤ 1000000 := by omega
  clear hV hl
  go_enter Tryd.func54, Tryd.ntmps54
  go_wp2_with fail
  go_loopg [5, 8] m (fun g iv kv wr => ∃ i : Nat, i ≤ m ∧ g = m - i ∧ kv = .int .i64 (i : Nat) ∧ Hid (Below w.heap.size w wr) ∧ Hid (∀ (j : Nat) k, j < i → l[j]? = some k → badK last k = false))
  case atStart => exact ⟨0, Nat.zero_le _, rfl, rfl, Below.refl _ _, fun j x hj => by omega⟩
  case round =>
    obtain ⟨i, hi, rfl, rfl, HB, HA⟩ := hrel
    by_cases q : i < m
    · have q' : (i : Int) < (m : Int) := by omega
      obtain ⟨g, o, ea, hc⟩ := kind_at V.out q
      subst ea
      obtain ⟨k, hk⟩ := Vw.ex V.out q
      have ek : atI l i = k := by unfold atI; rw [Int.toNat_natCast, List.getD_eq_getElem?_getD, hk]; rfl
      rw [ek] at hc
      have cc := celB HB.out hc
      have KK := hid (areKinds1_any (celB HB.out HL.out) k)
      have HK := hid hk
      clear hc hk ek
      cases z : badK last k with
      | true =>
        rw [z] at KK
        have EN := hid (show decide (0 ≤ (i : Int)) = l.any (badK last) from by
          rw [decide_eq_true (by omega)]
          exact (List.any_eq_true.2 ⟨k, List.mem_of_getElem? HK.out, z⟩).symm)
        clear z
        go_wp2_with (go_at_call 38; (with_reducible refine Calls.mono KK.out ?_); rintro e w4 ⟨rfl, b4⟩; have B4 := hid (nxB HB.out b4); clear b4)
        go_returns
        exact ⟨_, rfl, EN.out, B4.out⟩
      | false =>
        rw [z] at KK
        have ZZ := hid z
        clear z
        go_wp2_with (go_at_call 38; (with_reducible refine Calls.mono KK.out ?_); rintro e w4 ⟨rfl, b4⟩; have B4 := hid (nxB HB.out b4); clear b4)
        go_roundg (m - (i + 1))
        case measure => omega
        case rel => exact ⟨i + 1, by omega, rfl, by rw [Int.natCast_add]; rfl, B4.out, nx_no (f := badK last) HA.out HK.out ZZ.out⟩
    · have q' : ¬ (i : Int) < (m : Int) := by omega
      have EN := hid (show decide (0 ≤ (-1 : Int)) = l.any (badK last) from by
        rw [show l.any (badK last) = false from by
          rw [List.any_eq_false]
          intro k hk
          obtain ⟨j, hj, rfl⟩ := List.mem_iff_getElem.1 hk
          rw [HA.out j _ (by have := V.out.len; omega) (List.getElem?_eq_getElem hj)]
          decide]
        decide)
      go_wp2_with fail
      go_returns
      exact ⟨-1, rfl, EN.out, HB.out⟩
set_option maxRecDepth 100000 in
set_option maxHeartbeats 8000000 in
theorem areKinds_any {w : World} {last : Int} {a : Option Addr} {m c : Nat} {l : List Int} (hV : Vw aI 1 w a m l) (hm : m ≤ 1000000) :
    Calls Tryd.prog 16 #[.slice a m c, .int .i64 last] w fun e w' => e = .returned (.bool (akB l last)) ∧ Below w.heap.size w w' := by
  have B1 := hid (allocB w (.cells #[.int .i64 last] 38))
  have cl := cells_new w [.int .i64 last] 38 0 _ rfl
  have CLL := hid (show (w.alloc (.cells #[.int .i64 last] 38)).cell? ⟨w.heap.size, 0, none⟩ = some (.int .i64 last) from cl)
  have KI := hid (fun W (b : Below w.heap.size w W) lb hl => IFKind_any (w := W) (lb := lb) (last := last) (c := c) hl (hV.next aI_nx b) hm)
  obtain ⟨lb, hlb⟩ : ∃ lb, lb = w.heap.size := ⟨_, rfl⟩
  have WL := hid hlb
  rw [← hlb] at CLL
  unfold akB
  have KC := hid (fun W (b : Below w.heap.size w W) lb hl => show Calls Tryd.prog 37 #[.slice a m c, .func (.func 38) #[] #[.pointer (some ⟨lb, 0, none⟩)]] W fun e w' => e = .returned (.bool (l.any (badK last))) ∧ Below W.heap.size W w' from by
    have KJ := hid (KI.out W b lb hl)
    generalize l.any (badK last) = y at *
    clear KI CLL cl hV hlb WL B1
    go_enter Tryd.func37, Tryd.ntmps37
    go_wp2_with (go_at_call 54; (with_reducible refine Calls.mono KJ.out ?_); rintro e w4 ⟨n, rfl, hn, b4⟩; have B4 := hid b4; have HN := hid hn; clear b4 hn)
    go_ret
    exact ⟨by rw [← HN.out]; rfl, B4.out⟩)
  generalize l.any (badK last) = y at *
  clear KI cl hV hlb
  go_enter Tryd.func16, Tryd.ntmps16
  go_upto_region 1 with fail
  rw [← WL.out]
  generalize World.alloc w _ = w1 at *
  have KD := hid (KC.out w1 B1.out lb CLL.out)
  go_wp2_with (go_at_call 37; (with_reducible refine Calls.mono KD.out ?_); rintro e w4 ⟨rfl, b4⟩; have B4 := hid (nxB B1.out b4); clear b4)
  go_ret
  exact ⟨rfl, B4.out⟩
set_option maxRecDepth 100000 in
set_option maxHeartbeats 8000000 in
theorem CFValue_none (w : World) (a : Option Addr) (c : Nat) : Calls Tryd.prog 17 #[.slice a 0 c, .func (.func 18) #[] #[]] w fun e w' => e = .returned (.bool false) ∧ Below w.heap.size w w' := by
  have KJ := hid (show Calls Tryd.prog 39 #[.slice a 0 c, .func (.func 18) #[] #[]] w fun e w' => e = .returned (.int .i64 (-1)) ∧ Below w.heap.size w w' from by
    go_enter Tryd.func39, Tryd.ntmps39
    go_wp2_with fail
    go_loopg [5, 8] 0 (fun g iv kv wr => g = 0 ∧ kv = .int .i64 0 ∧ Hid (Below w.heap.size w wr))
    case atStart => exact ⟨rfl, rfl, Below.refl _ _⟩
    case round =>
      obtain ⟨rfl, rfl, HB⟩ := hrel
      go_wp2_with fail
      go_returns
      exact ⟨rfl, HB.out⟩)
  go_enter Tryd.func17, Tryd.ntmps17
  go_wp2_with (go_at_call 39; (with_reducible refine Calls.mono KJ.out ?_); rintro e w4 ⟨rfl, b4⟩; have B4 := hid b4; clear b4)
  go_ret
  exact ⟨rfl, B4.out⟩
set_option maxRecDepth 100000 in
set_option maxHeartbeats 8000000 in
theorem CFTable_none (w : World) (a : Option Addr) (c : Nat) : Calls Tryd.prog 19 #[.slice a 0 c, .func (.func 20) #[] #[]] w fun e w' => e = .returned (.bool false) ∧ Below w.heap.size w w' := by
  have KJ := hid (show Calls Tryd.prog 41 #[.slice a 0 c, .func (.func 20) #[] #[]] w fun e w' => e = .returned (.int .i64 (-1)) ∧ Below w.heap.size w w' from by
    go_enter Tryd.func41, Tryd.ntmps41
    go_wp2_with fail
    go_loopg [5, 8] 0 (fun g iv kv wr => g = 0 ∧ kv = .int .i64 0 ∧ Hid (Below w.heap.size w wr))
    case atStart => exact ⟨rfl, rfl, Below.refl _ _⟩
    case round =>
      obtain ⟨rfl, rfl, HB⟩ := hrel
      go_wp2_with fail
      go_returns
      exact ⟨rfl, HB.out⟩)
  go_enter Tryd.func19, Tryd.ntmps19
  go_wp2_with (go_at_call 41; (with_reducible refine Calls.mono KJ.out ?_); rintro e w4 ⟨rfl, b4⟩; have B4 := hid b4; clear b4)
  go_ret
  exact ⟨rfl, B4.out⟩
def lisB (s : S7) (p : Pg) : Bool := rmB s && akB p.ins 6 && akB p.outs 5 && akB p.sl 5
set_option maxRecDepth 100000 in
set_option maxHeartbeats 8000000 in
theorem lists_any {w : World} {c : Nat} {s : S7} {p : Pg} {lv : Value} {st sk : Int} (hC : Ck w c s lv st sk) (hP : Pv w s p) (h0 : s.m0 = 0) (h1 : s.m1 = 0) (h2 : s.m2 ≤ 1000000) (h3 : s.m3 ≤ 1000000) (h4 : s.m4 ≤ 1000000) :
    Calls Tryd.prog 8 #[.pointer (some ⟨c, 0, none⟩)] w fun e w' => e = .returned (.tuple #[.int .i64 (-1), .bool (lisB s p)]) ∧ Below w.heap.size w w' := by
  have X1 := hid (Bx.new w #[.slice s.a0 s.m0 s.c0, .slice s.a1 s.m1 s.c1, .slice s.a2 s.m2 s.c2, .slice s.a3 s.m3 s.c3, .slice s.a4 s.m4 s.c4, .slice s.a5 s.m5 s.c5, .slice s.a6 s.m6 s.c6] 35 (by decide))
  have B1 := hid (allocB w (.cells #[.slice s.a0 s.m0 s.c0, .slice s.a1 s.m1 s.c1, .slice s.a2 s.m2 s.c2, .slice s.a3 s.m3 s.c3, .slice s.a4 s.m4 s.c4, .slice s.a5 s.m5 s.c5, .slice s.a6 s.m6 s.c6] 35))
  obtain ⟨pb, hpb⟩ : ∃ pb, pb = w.heap.size := ⟨_, rfl⟩
  have WP := hid hpb
  rw [← hpb] at X1
  have KR := hid (fun W (b : Below w.heap.size w W) => hasRoom_any W s)
  have KA := hid (fun W (b : Below w.heap.size w W) => areKinds_any (w := W) (last := 6) (c := s.c2) (hP.k2.next aI_nx b) h2)
  have KB := hid (fun W (b : Below w.heap.size w W) => areKinds_any (w := W) (last := 5) (c := s.c3) (hP.k3.next aI_nx b) h3)
  have KD := hid (fun W (b : Below w.heap.size w W) => areKinds_any (w := W) (last := 5) (c := s.c4) (hP.k4.next aI_nx b) h4)
  have KV := hid (fun W => show Calls Tryd.prog 17 #[.slice s.a0 s.m0 s.c0, .func (.func 18) #[] #[]] W (fun e w' => e = .returned (.bool false) ∧ Below W.heap.size W w') from by rw [h0]; exact CFValue_none W s.a0 s.c0)
  have KT := hid (fun W => show Calls Tryd.prog 19 #[.slice s.a1 s.m1 s.c1, .func (.func 20) #[] #[]] W (fun e w' => e = .returned (.bool false) ∧ Below W.heap.size W w') from by rw [h1]; exact CFTable_none W s.a1 s.c1)
  have e0 : w.cell? ⟨c, 0, none⟩ = some (.slice s.a0 s.m0 s.c0) := hC.cell 0 _ rfl
  have e1 : w.cell? ⟨c, 1, none⟩ = some (.slice s.a1 s.m1 s.c1) := hC.cell 1 _ rfl
  have e2 : w.cell? ⟨c, 2, none⟩ = some (.slice s.a2 s.m2 s.c2) := hC.cell 2 _ rfl
  have e3 : w.cell? ⟨c, 3, none⟩ = some (.slice s.a3 s.m3 s.c3) := hC.cell 3 _ rfl
  have e4 : w.cell? ⟨c, 4, none⟩ = some (.slice s.a4 s.m4 s.c4) := hC.cell 4 _ rfl
  have e5 : w.cell? ⟨c, 5, none⟩ = some (.slice s.a5 s.m5 s.c5) := hC.cell 5 _ rfl
  have e6 : w.cell? ⟨c, 6, none⟩ = some (.slice s.a6 s.m6 s.c6) := hC.cell 6 _ rfl
  clear hC hP h0 h1 h2 h3 h4 hpb
  unfold lisB
  cases zr : rmB s with
  | false =>
    rw [zr] at KR
    rw [Bool.false_and, Bool.false_and, Bool.false_and]
    clear zr
    go_enter Tryd.func8, Tryd.ntmps8
    go_upto_region 2 with fail
    rw [← WP.out]
    clear e0 e1 e2 e3 e4 e5 e6
    generalize World.alloc w _ = w1 at *
    have c0 : w1.cell? ⟨pb, 0, none⟩ = some (.slice s.a0 s.m0 s.c0) := X1.out.cell 0 _ rfl
    have c1 : w1.cell? ⟨pb, 1, none⟩ = some (.slice s.a1 s.m1 s.c1) := X1.out.cell 1 _ rfl
    have c2 : w1.cell? ⟨pb, 2, none⟩ = some (.slice s.a2 s.m2 s.c2) := X1.out.cell 2 _ rfl
    have c3 : w1.cell? ⟨pb, 3, none⟩ = some (.slice s.a3 s.m3 s.c3) := X1.out.cell 3 _ rfl
    have c4 : w1.cell? ⟨pb, 4, none⟩ = some (.slice s.a4 s.m4 s.c4) := X1.out.cell 4 _ rfl
    have c5 : w1.cell? ⟨pb, 5, none⟩ = some (.slice s.a5 s.m5 s.c5) := X1.out.cell 5 _ rfl
    have c6 : w1.cell? ⟨pb, 6, none⟩ = some (.slice s.a6 s.m6 s.c6) := X1.out.cell 6 _ rfl
    go_wp2_with (first | (go_at_call 15; (with_reducible refine Calls.mono (KR.out _ B1.out) ?_); rintro e w2 ⟨rfl, b9⟩; have B2 := hid (nxB B1.out b9); have X2 := hid (Bx.next X1.out b9); clear b9; clear c0 c1 c2 c3 c4 c5 c6; have c0 : w2.cell? ⟨pb, 0, none⟩ = some (.slice s.a0 s.m0 s.c0) := X2.out.cell 0 _ rfl; have c1 : w2.cell? ⟨pb, 1, none⟩ = some (.slice s.a1 s.m1 s.c1) := X2.out.cell 1 _ rfl; have c2 : w2.cell? ⟨pb, 2, none⟩ = some (.slice s.a2 s.m2 s.c2) := X2.out.cell 2 _ rfl; have c3 : w2.cell? ⟨pb, 3, none⟩ = some (.slice s.a3 s.m3 s.c3) := X2.out.cell 3 _ rfl; have c4 : w2.cell? ⟨pb, 4, none⟩ = some (.slice s.a4 s.m4 s.c4) := X2.out.cell 4 _ rfl; have c5 : w2.cell? ⟨pb, 5, none⟩ = some (.slice s.a5 s.m5 s.c5) := X2.out.cell 5 _ rfl; have c6 : w2.cell? ⟨pb, 6, none⟩ = some (.slice s.a6 s.m6 s.c6) := X2.out.cell 6 _ rfl))
    go_returns
    exact ⟨rfl, B2.out⟩
  | true =>
    rw [zr] at KR
    rw [Bool.true_and]
    clear zr
    cases za : akB p.ins 6 with
    | false =>
      rw [za] at KA
      rw [Bool.false_and, Bool.false_and]
      clear za
      go_enter Tryd.func8, Tryd.ntmps8
      go_upto_region 2 with fail
      rw [← WP.out]
      clear e0 e1 e2 e3 e4 e5 e6
      generalize World.alloc w _ = w1 at *
      have c0 : w1.cell? ⟨pb, 0, none⟩ = some (.slice s.a0 s.m0 s.c0) := X1.out.cell 0 _ rfl
      have c1 : w1.cell? ⟨pb, 1, none⟩ = some (.slice s.a1 s.m1 s.c1) := X1.out.cell 1 _ rfl
      have c2 : w1.cell? ⟨pb, 2, none⟩ = some (.slice s.a2 s.m2 s.c2) := X1.out.cell 2 _ rfl
      have c3 : w1.cell? ⟨pb, 3, none⟩ = some (.slice s.a3 s.m3 s.c3) := X1.out.cell 3 _ rfl
      have c4 : w1.cell? ⟨pb, 4, none⟩ = some (.slice s.a4 s.m4 s.c4) := X1.out.cell 4 _ rfl
      have c5 : w1.cell? ⟨pb, 5, none⟩ = some (.slice s.a5 s.m5 s.c5) := X1.out.cell 5 _ rfl
      have c6 : w1.cell? ⟨pb, 6, none⟩ = some (.slice s.a6 s.m6 s.c6) := X1.out.cell 6 _ rfl
      go_wp2_with (first | (go_at_call 15; (with_reducible refine Calls.mono (KR.out _ B1.out) ?_); rintro e w2 ⟨rfl, b9⟩; have B2 := hid (nxB B1.out b9); have X2 := hid (Bx.next X1.out b9); clear b9; clear c0 c1 c2 c3 c4 c5 c6; have c0 : w2.cell? ⟨pb, 0, none⟩ = some (.slice s.a0 s.m0 s.c0) := X2.out.cell 0 _ rfl; have c1 : w2.cell? ⟨pb, 1, none⟩ = some (.slice s.a1 s.m1 s.c1) := X2.out.cell 1 _ rfl; have c2 : w2.cell? ⟨pb, 2, none⟩ = some (.slice s.a2 s.m2 s.c2) := X2.out.cell 2 _ rfl; have c3 : w2.cell? ⟨pb, 3, none⟩ = some (.slice s.a3 s.m3 s.c3) := X2.out.cell 3 _ rfl; have c4 : w2.cell? ⟨pb, 4, none⟩ = some (.slice s.a4 s.m4 s.c4) := X2.out.cell 4 _ rfl; have c5 : w2.cell? ⟨pb, 5, none⟩ = some (.slice s.a5 s.m5 s.c5) := X2.out.cell 5 _ rfl; have c6 : w2.cell? ⟨pb, 6, none⟩ = some (.slice s.a6 s.m6 s.c6) := X2.out.cell 6 _ rfl) | (go_at_call 16; (with_reducible refine Calls.mono (KA.out _ B2.out) ?_); rintro e w3 ⟨rfl, b9⟩; have B3 := hid (nxB B2.out b9); have X3 := hid (Bx.next X2.out b9); clear b9; clear c0 c1 c2 c3 c4 c5 c6; have c0 : w3.cell? ⟨pb, 0, none⟩ = some (.slice s.a0 s.m0 s.c0) := X3.out.cell 0 _ rfl; have c1 : w3.cell? ⟨pb, 1, none⟩ = some (.slice s.a1 s.m1 s.c1) := X3.out.cell 1 _ rfl; have c2 : w3.cell? ⟨pb, 2, none⟩ = some (.slice s.a2 s.m2 s.c2) := X3.out.cell 2 _ rfl; have c3 : w3.cell? ⟨pb, 3, none⟩ = some (.slice s.a3 s.m3 s.c3) := X3.out.cell 3 _ rfl; have c4 : w3.cell? ⟨pb, 4, none⟩ = some (.slice s.a4 s.m4 s.c4) := X3.out.cell 4 _ rfl; have c5 : w3.cell? ⟨pb, 5, none⟩ = some (.slice s.a5 s.m5 s.c5) := X3.out.cell 5 _ rfl; have c6 : w3.cell? ⟨pb, 6, none⟩ = some (.slice s.a6 s.m6 s.c6) := X3.out.cell 6 _ rfl))
      go_returns
      exact ⟨rfl, B3.out⟩
    | true =>
      rw [za] at KA
      rw [Bool.true_and]
      clear za
      cases zb : akB p.outs 5 with
      | false =>
        rw [zb] at KB
        rw [Bool.false_and]
        clear zb
        go_enter Tryd.func8, Tryd.ntmps8
        go_upto_region 2 with fail
        rw [← WP.out]
        clear e0 e1 e2 e3 e4 e5 e6
        generalize World.alloc w _ = w1 at *
        have c0 : w1.cell? ⟨pb, 0, none⟩ = some (.slice s.a0 s.m0 s.c0) := X1.out.cell 0 _ rfl
        have c1 : w1.cell? ⟨pb, 1, none⟩ = some (.slice s.a1 s.m1 s.c1) := X1.out.cell 1 _ rfl
        have c2 : w1.cell? ⟨pb, 2, none⟩ = some (.slice s.a2 s.m2 s.c2) := X1.out.cell 2 _ rfl
        have c3 : w1.cell? ⟨pb, 3, none⟩ = some (.slice s.a3 s.m3 s.c3) := X1.out.cell 3 _ rfl
        have c4 : w1.cell? ⟨pb, 4, none⟩ = some (.slice s.a4 s.m4 s.c4) := X1.out.cell 4 _ rfl
        have c5 : w1.cell? ⟨pb, 5, none⟩ = some (.slice s.a5 s.m5 s.c5) := X1.out.cell 5 _ rfl
        have c6 : w1.cell? ⟨pb, 6, none⟩ = some (.slice s.a6 s.m6 s.c6) := X1.out.cell 6 _ rfl
        go_wp2_with (first | (go_at_call 15; (with_reducible refine Calls.mono (KR.out _ B1.out) ?_); rintro e w2 ⟨rfl, b9⟩; have B2 := hid (nxB B1.out b9); have X2 := hid (Bx.next X1.out b9); clear b9; clear c0 c1 c2 c3 c4 c5 c6; have c0 : w2.cell? ⟨pb, 0, none⟩ = some (.slice s.a0 s.m0 s.c0) := X2.out.cell 0 _ rfl; have c1 : w2.cell? ⟨pb, 1, none⟩ = some (.slice s.a1 s.m1 s.c1) := X2.out.cell 1 _ rfl; have c2 : w2.cell? ⟨pb, 2, none⟩ = some (.slice s.a2 s.m2 s.c2) := X2.out.cell 2 _ rfl; have c3 : w2.cell? ⟨pb, 3, none⟩ = some (.slice s.a3 s.m3 s.c3) := X2.out.cell 3 _ rfl; have c4 : w2.cell? ⟨pb, 4, none⟩ = some (.slice s.a4 s.m4 s.c4) := X2.out.cell 4 _ rfl; have c5 : w2.cell? ⟨pb, 5, none⟩ = some (.slice s.a5 s.m5 s.c5) := X2.out.cell 5 _ rfl; have c6 : w2.cell? ⟨pb, 6, none⟩ = some (.slice s.a6 s.m6 s.c6) := X2.out.cell 6 _ rfl) | (go_at_call 16; (with_reducible refine Calls.mono (KA.out _ B2.out) ?_); rintro e w3 ⟨rfl, b9⟩; have B3 := hid (nxB B2.out b9); have X3 := hid (Bx.next X2.out b9); clear b9; clear c0 c1 c2 c3 c4 c5 c6; have c0 : w3.cell? ⟨pb, 0, none⟩ = some (.slice s.a0 s.m0 s.c0) := X3.out.cell 0 _ rfl; have c1 : w3.cell? ⟨pb, 1, none⟩ = some (.slice s.a1 s.m1 s.c1) := X3.out.cell 1 _ rfl; have c2 : w3.cell? ⟨pb, 2, none⟩ = some (.slice s.a2 s.m2 s.c2) := X3.out.cell 2 _ rfl; have c3 : w3.cell? ⟨pb, 3, none⟩ = some (.slice s.a3 s.m3 s.c3) := X3.out.cell 3 _ rfl; have c4 : w3.cell? ⟨pb, 4, none⟩ = some (.slice s.a4 s.m4 s.c4) := X3.out.cell 4 _ rfl; have c5 : w3.cell? ⟨pb, 5, none⟩ = some (.slice s.a5 s.m5 s.c5) := X3.out.cell 5 _ rfl; have c6 : w3.cell? ⟨pb, 6, none⟩ = some (.slice s.a6 s.m6 s.c6) := X3.out.cell 6 _ rfl) | (go_at_call 16; (with_reducible refine Calls.mono (KB.out _ B3.out) ?_); rintro e w4 ⟨rfl, b9⟩; have B4 := hid (nxB B3.out b9); have X4 := hid (Bx.next X3.out b9); clear b9; clear c0 c1 c2 c3 c4 c5 c6; have c0 : w4.cell? ⟨pb, 0, none⟩ = some (.slice s.a0 s.m0 s.c0) := X4.out.cell 0 _ rfl; have c1 : w4.cell? ⟨pb, 1, none⟩ = some (.slice s.a1 s.m1 s.c1) := X4.out.cell 1 _ rfl; have c2 : w4.cell? ⟨pb, 2, none⟩ = some (.slice s.a2 s.m2 s.c2) := X4.out.cell 2 _ rfl; have c3 : w4.cell? ⟨pb, 3, none⟩ = some (.slice s.a3 s.m3 s.c3) := X4.out.cell 3 _ rfl; have c4 : w4.cell? ⟨pb, 4, none⟩ = some (.slice s.a4 s.m4 s.c4) := X4.out.cell 4 _ rfl; have c5 : w4.cell? ⟨pb, 5, none⟩ = some (.slice s.a5 s.m5 s.c5) := X4.out.cell 5 _ rfl; have c6 : w4.cell? ⟨pb, 6, none⟩ = some (.slice s.a6 s.m6 s.c6) := X4.out.cell 6 _ rfl))
        go_returns
        exact ⟨rfl, B4.out⟩
      | true =>
        rw [zb] at KB
        rw [Bool.true_and]
        clear zb
        cases zd : akB p.sl 5 with
        | false =>
          rw [zd] at KD
          clear zd
          go_enter Tryd.func8, Tryd.ntmps8
          go_upto_region 2 with fail
          rw [← WP.out]
          clear e0 e1 e2 e3 e4 e5 e6
          generalize World.alloc w _ = w1 at *
          have c0 : w1.cell? ⟨pb, 0, none⟩ = some (.slice s.a0 s.m0 s.c0) := X1.out.cell 0 _ rfl
          have c1 : w1.cell? ⟨pb, 1, none⟩ = some (.slice s.a1 s.m1 s.c1) := X1.out.cell 1 _ rfl
          have c2 : w1.cell? ⟨pb, 2, none⟩ = some (.slice s.a2 s.m2 s.c2) := X1.out.cell 2 _ rfl
          have c3 : w1.cell? ⟨pb, 3, none⟩ = some (.slice s.a3 s.m3 s.c3) := X1.out.cell 3 _ rfl
          have c4 : w1.cell? ⟨pb, 4, none⟩ = some (.slice s.a4 s.m4 s.c4) := X1.out.cell 4 _ rfl
          have c5 : w1.cell? ⟨pb, 5, none⟩ = some (.slice s.a5 s.m5 s.c5) := X1.out.cell 5 _ rfl
          have c6 : w1.cell? ⟨pb, 6, none⟩ = some (.slice s.a6 s.m6 s.c6) := X1.out.cell 6 _ rfl
          go_wp2_with (first | (go_at_call 15; (with_reducible refine Calls.mono (KR.out _ B1.out) ?_); rintro e w2 ⟨rfl, b9⟩; have B2 := hid (nxB B1.out b9); have X2 := hid (Bx.next X1.out b9); clear b9; clear c0 c1 c2 c3 c4 c5 c6; have c0 : w2.cell? ⟨pb, 0, none⟩ = some (.slice s.a0 s.m0 s.c0) := X2.out.cell 0 _ rfl; have c1 : w2.cell? ⟨pb, 1, none⟩ = some (.slice s.a1 s.m1 s.c1) := X2.out.cell 1 _ rfl; have c2 : w2.cell? ⟨pb, 2, none⟩ = some (.slice s.a2 s.m2 s.c2) := X2.out.cell 2 _ rfl; have c3 : w2.cell? ⟨pb, 3, none⟩ = some (.slice s.a3 s.m3 s.c3) := X2.out.cell 3 _ rfl; have c4 : w2.cell? ⟨pb, 4, none⟩ = some (.slice s.a4 s.m4 s.c4) := X2.out.cell 4 _ rfl; have c5 : w2.cell? ⟨pb, 5, none⟩ = some (.slice s.a5 s.m5 s.c5) := X2.out.cell 5 _ rfl; have c6 : w2.cell? ⟨pb, 6, none⟩ = some (.slice s.a6 s.m6 s.c6) := X2.out.cell 6 _ rfl) | (go_at_call 16; (with_reducible refine Calls.mono (KA.out _ B2.out) ?_); rintro e w3 ⟨rfl, b9⟩; have B3 := hid (nxB B2.out b9); have X3 := hid (Bx.next X2.out b9); clear b9; clear c0 c1 c2 c3 c4 c5 c6; have c0 : w3.cell? ⟨pb, 0, none⟩ = some (.slice s.a0 s.m0 s.c0) := X3.out.cell 0 _ rfl; have c1 : w3.cell? ⟨pb, 1, none⟩ = some (.slice s.a1 s.m1 s.c1) := X3.out.cell 1 _ rfl; have c2 : w3.cell? ⟨pb, 2, none⟩ = some (.slice s.a2 s.m2 s.c2) := X3.out.cell 2 _ rfl; have c3 : w3.cell? ⟨pb, 3, none⟩ = some (.slice s.a3 s.m3 s.c3) := X3.out.cell 3 _ rfl; have c4 : w3.cell? ⟨pb, 4, none⟩ = some (.slice s.a4 s.m4 s.c4) := X3.out.cell 4 _ rfl; have c5 : w3.cell? ⟨pb, 5, none⟩ = some (.slice s.a5 s.m5 s.c5) := X3.out.cell 5 _ rfl; have c6 : w3.cell? ⟨pb, 6, none⟩ = some (.slice s.a6 s.m6 s.c6) := X3.out.cell 6 _ rfl) | (go_at_call 16; (with_reducible refine Calls.mono (KB.out _ B3.out) ?_); rintro e w4 ⟨rfl, b9⟩; have B4 := hid (nxB B3.out b9); have X4 := hid (Bx.next X3.out b9); clear b9; clear c0 c1 c2 c3 c4 c5 c6; have c0 : w4.cell? ⟨pb, 0, none⟩ = some (.slice s.a0 s.m0 s.c0) := X4.out.cell 0 _ rfl; have c1 : w4.cell? ⟨pb, 1, none⟩ = some (.slice s.a1 s.m1 s.c1) := X4.out.cell 1 _ rfl; have c2 : w4.cell? ⟨pb, 2, none⟩ = some (.slice s.a2 s.m2 s.c2) := X4.out.cell 2 _ rfl; have c3 : w4.cell? ⟨pb, 3, none⟩ = some (.slice s.a3 s.m3 s.c3) := X4.out.cell 3 _ rfl; have c4 : w4.cell? ⟨pb, 4, none⟩ = some (.slice s.a4 s.m4 s.c4) := X4.out.cell 4 _ rfl; have c5 : w4.cell? ⟨pb, 5, none⟩ = some (.slice s.a5 s.m5 s.c5) := X4.out.cell 5 _ rfl; have c6 : w4.cell? ⟨pb, 6, none⟩ = some (.slice s.a6 s.m6 s.c6) := X4.out.cell 6 _ rfl) | (go_at_call 16; (with_reducible refine Calls.mono (KD.out _ B4.out) ?_); rintro e w5 ⟨rfl, b9⟩; have B5 := hid (nxB B4.out b9); have X5 := hid (Bx.next X4.out b9); clear b9; clear c0 c1 c2 c3 c4 c5 c6; have c0 : w5.cell? ⟨pb, 0, none⟩ = some (.slice s.a0 s.m0 s.c0) := X5.out.cell 0 _ rfl; have c1 : w5.cell? ⟨pb, 1, none⟩ = some (.slice s.a1 s.m1 s.c1) := X5.out.cell 1 _ rfl; have c2 : w5.cell? ⟨pb, 2, none⟩ = some (.slice s.a2 s.m2 s.c2) := X5.out.cell 2 _ rfl; have c3 : w5.cell? ⟨pb, 3, none⟩ = some (.slice s.a3 s.m3 s.c3) := X5.out.cell 3 _ rfl; have c4 : w5.cell? ⟨pb, 4, none⟩ = some (.slice s.a4 s.m4 s.c4) := X5.out.cell 4 _ rfl; have c5 : w5.cell? ⟨pb, 5, none⟩ = some (.slice s.a5 s.m5 s.c5) := X5.out.cell 5 _ rfl; have c6 : w5.cell? ⟨pb, 6, none⟩ = some (.slice s.a6 s.m6 s.c6) := X5.out.cell 6 _ rfl))
          go_returns
          exact ⟨rfl, B5.out⟩
        | true =>
          rw [zd] at KD
          clear zd
          go_enter Tryd.func8, Tryd.ntmps8
          go_upto_region 2 with fail
          rw [← WP.out]
          clear e0 e1 e2 e3 e4 e5 e6
          generalize World.alloc w _ = w1 at *
          have c0 : w1.cell? ⟨pb, 0, none⟩ = some (.slice s.a0 s.m0 s.c0) := X1.out.cell 0 _ rfl
          have c1 : w1.cell? ⟨pb, 1, none⟩ = some (.slice s.a1 s.m1 s.c1) := X1.out.cell 1 _ rfl
          have c2 : w1.cell? ⟨pb, 2, none⟩ = some (.slice s.a2 s.m2 s.c2) := X1.out.cell 2 _ rfl
          have c3 : w1.cell? ⟨pb, 3, none⟩ = some (.slice s.a3 s.m3 s.c3) := X1.out.cell 3 _ rfl
          have c4 : w1.cell? ⟨pb, 4, none⟩ = some (.slice s.a4 s.m4 s.c4) := X1.out.cell 4 _ rfl
          have c5 : w1.cell? ⟨pb, 5, none⟩ = some (.slice s.a5 s.m5 s.c5) := X1.out.cell 5 _ rfl
          have c6 : w1.cell? ⟨pb, 6, none⟩ = some (.slice s.a6 s.m6 s.c6) := X1.out.cell 6 _ rfl
          go_wp2_with (first | (go_at_call 15; (with_reducible refine Calls.mono (KR.out _ B1.out) ?_); rintro e w2 ⟨rfl, b9⟩; have B2 := hid (nxB B1.out b9); have X2 := hid (Bx.next X1.out b9); clear b9; clear c0 c1 c2 c3 c4 c5 c6; have c0 : w2.cell? ⟨pb, 0, none⟩ = some (.slice s.a0 s.m0 s.c0) := X2.out.cell 0 _ rfl; have c1 : w2.cell? ⟨pb, 1, none⟩ = some (.slice s.a1 s.m1 s.c1) := X2.out.cell 1 _ rfl; have c2 : w2.cell? ⟨pb, 2, none⟩ = some (.slice s.a2 s.m2 s.c2) := X2.out.cell 2 _ rfl; have c3 : w2.cell? ⟨pb, 3, none⟩ = some (.slice s.a3 s.m3 s.c3) := X2.out.cell 3 _ rfl; have c4 : w2.cell? ⟨pb, 4, none⟩ = some (.slice s.a4 s.m4 s.c4) := X2.out.cell 4 _ rfl; have c5 : w2.cell? ⟨pb, 5, none⟩ = some (.slice s.a5 s.m5 s.c5) := X2.out.cell 5 _ rfl; have c6 : w2.cell? ⟨pb, 6, none⟩ = some (.slice s.a6 s.m6 s.c6) := X2.out.cell 6 _ rfl) | (go_at_call 16; (with_reducible refine Calls.mono (KA.out _ B2.out) ?_); rintro e w3 ⟨rfl, b9⟩; have B3 := hid (nxB B2.out b9); have X3 := hid (Bx.next X2.out b9); clear b9; clear c0 c1 c2 c3 c4 c5 c6; have c0 : w3.cell? ⟨pb, 0, none⟩ = some (.slice s.a0 s.m0 s.c0) := X3.out.cell 0 _ rfl; have c1 : w3.cell? ⟨pb, 1, none⟩ = some (.slice s.a1 s.m1 s.c1) := X3.out.cell 1 _ rfl; have c2 : w3.cell? ⟨pb, 2, none⟩ = some (.slice s.a2 s.m2 s.c2) := X3.out.cell 2 _ rfl; have c3 : w3.cell? ⟨pb, 3, none⟩ = some (.slice s.a3 s.m3 s.c3) := X3.out.cell 3 _ rfl; have c4 : w3.cell? ⟨pb, 4, none⟩ = some (.slice s.a4 s.m4 s.c4) := X3.out.cell 4 _ rfl; have c5 : w3.cell? ⟨pb, 5, none⟩ = some (.slice s.a5 s.m5 s.c5) := X3.out.cell 5 _ rfl; have c6 : w3.cell? ⟨pb, 6, none⟩ = some (.slice s.a6 s.m6 s.c6) := X3.out.cell 6 _ rfl) | (go_at_call 16; (with_reducible refine Calls.mono (KB.out _ B3.out) ?_); rintro e w4 ⟨rfl, b9⟩; have B4 := hid (nxB B3.out b9); have X4 := hid (Bx.next X3.out b9); clear b9; clear c0 c1 c2 c3 c4 c5 c6; have c0 : w4.cell? ⟨pb, 0, none⟩ = some (.slice s.a0 s.m0 s.c0) := X4.out.cell 0 _ rfl; have c1 : w4.cell? ⟨pb, 1, none⟩ = some (.slice s.a1 s.m1 s.c1) := X4.out.cell 1 _ rfl; have c2 : w4.cell? ⟨pb, 2, none⟩ = some (.slice s.a2 s.m2 s.c2) := X4.out.cell 2 _ rfl; have c3 : w4.cell? ⟨pb, 3, none⟩ = some (.slice s.a3 s.m3 s.c3) := X4.out.cell 3 _ rfl; have c4 : w4.cell? ⟨pb, 4, none⟩ = some (.slice s.a4 s.m4 s.c4) := X4.out.cell 4 _ rfl; have c5 : w4.cell? ⟨pb, 5, none⟩ = some (.slice s.a5 s.m5 s.c5) := X4.out.cell 5 _ rfl; have c6 : w4.cell? ⟨pb, 6, none⟩ = some (.slice s.a6 s.m6 s.c6) := X4.out.cell 6 _ rfl) | (go_at_call 16; (with_reducible refine Calls.mono (KD.out _ B4.out) ?_); rintro e w5 ⟨rfl, b9⟩; have B5 := hid (nxB B4.out b9); have X5 := hid (Bx.next X4.out b9); clear b9; clear c0 c1 c2 c3 c4 c5 c6; have c0 : w5.cell? ⟨pb, 0, none⟩ = some (.slice s.a0 s.m0 s.c0) := X5.out.cell 0 _ rfl; have c1 : w5.cell? ⟨pb, 1, none⟩ = some (.slice s.a1 s.m1 s.c1) := X5.out.cell 1 _ rfl; have c2 : w5.cell? ⟨pb, 2, none⟩ = some (.slice s.a2 s.m2 s.c2) := X5.out.cell 2 _ rfl; have c3 : w5.cell? ⟨pb, 3, none⟩ = some (.slice s.a3 s.m3 s.c3) := X5.out.cell 3 _ rfl; have c4 : w5.cell? ⟨pb, 4, none⟩ = some (.slice s.a4 s.m4 s.c4) := X5.out.cell 4 _ rfl; have c5 : w5.cell? ⟨pb, 5, none⟩ = some (.slice s.a5 s.m5 s.c5) := X5.out.cell 5 _ rfl; have c6 : w5.cell? ⟨pb, 6, none⟩ = some (.slice s.a6 s.m6 s.c6) := X5.out.cell 6 _ rfl) | (go_at_call 17; (with_reducible refine Calls.mono (KV.out _) ?_); rintro e w6 ⟨rfl, b9⟩; have B6 := hid (nxB B5.out b9); have X6 := hid (Bx.next X5.out b9); clear b9; clear c0 c1 c2 c3 c4 c5 c6; have c0 : w6.cell? ⟨pb, 0, none⟩ = some (.slice s.a0 s.m0 s.c0) := X6.out.cell 0 _ rfl; have c1 : w6.cell? ⟨pb, 1, none⟩ = some (.slice s.a1 s.m1 s.c1) := X6.out.cell 1 _ rfl; have c2 : w6.cell? ⟨pb, 2, none⟩ = some (.slice s.a2 s.m2 s.c2) := X6.out.cell 2 _ rfl; have c3 : w6.cell? ⟨pb, 3, none⟩ = some (.slice s.a3 s.m3 s.c3) := X6.out.cell 3 _ rfl; have c4 : w6.cell? ⟨pb, 4, none⟩ = some (.slice s.a4 s.m4 s.c4) := X6.out.cell 4 _ rfl; have c5 : w6.cell? ⟨pb, 5, none⟩ = some (.slice s.a5 s.m5 s.c5) := X6.out.cell 5 _ rfl; have c6 : w6.cell? ⟨pb, 6, none⟩ = some (.slice s.a6 s.m6 s.c6) := X6.out.cell 6 _ rfl) | (go_at_call 19; (with_reducible refine Calls.mono (KT.out _) ?_); rintro e w7 ⟨rfl, b9⟩; have B7 := hid (nxB B6.out b9); have X7 := hid (Bx.next X6.out b9); clear b9; clear c0 c1 c2 c3 c4 c5 c6; have c0 : w7.cell? ⟨pb, 0, none⟩ = some (.slice s.a0 s.m0 s.c0) := X7.out.cell 0 _ rfl; have c1 : w7.cell? ⟨pb, 1, none⟩ = some (.slice s.a1 s.m1 s.c1) := X7.out.cell 1 _ rfl; have c2 : w7.cell? ⟨pb, 2, none⟩ = some (.slice s.a2 s.m2 s.c2) := X7.out.cell 2 _ rfl; have c3 : w7.cell? ⟨pb, 3, none⟩ = some (.slice s.a3 s.m3 s.c3) := X7.out.cell 3 _ rfl; have c4 : w7.cell? ⟨pb, 4, none⟩ = some (.slice s.a4 s.m4 s.c4) := X7.out.cell 4 _ rfl; have c5 : w7.cell? ⟨pb, 5, none⟩ = some (.slice s.a5 s.m5 s.c5) := X7.out.cell 5 _ rfl; have c6 : w7.cell? ⟨pb, 6, none⟩ = some (.slice s.a6 s.m6 s.c6) := X7.out.cell 6 _ rfl))
          go_returns
          exact ⟨rfl, B7.out⟩

end Go.Proofs.YtjkbiglnpoeddaaDoor.Vf
