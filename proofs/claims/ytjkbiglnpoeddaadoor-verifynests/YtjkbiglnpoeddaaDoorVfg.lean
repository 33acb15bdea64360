/- The walk over verify's isPaired. -/
import Derived.Test.YtjkbiglnpoeddaaDoorVff
namespace Go.Proofs.YtjkbiglnpoeddaaDoor.Vf
open Go.RowKit
set_option linter.unusedVariables false
set_option linter.unusedSimpArgs false

theorem dw1 (w : World) : Below w.heap.size w w.drew := ⟨rfl, rfl, rfl, Nat.le_refl _, fun _ _ => rfl⟩
theorem Bx.q4 {w : World} {q : Nat} {T : TypeId} {a b c d : Value} (h : Bx w q T #[a, b, c, d]) : w.cell? ⟨q, 0, none⟩ = some a ∧ w.cell? ⟨q, 1, none⟩ = some b ∧ w.cell? ⟨q, 2, none⟩ = some c ∧ w.cell? ⟨q, 3, none⟩ = some d := ⟨h.cell 0 _ rfl, h.cell 1 _ rfl, h.cell 2 _ rfl, h.cell 3 _ rfl⟩
set_option maxRecDepth 100000 in
set_option maxHeartbeats 8000000 in
theorem isPaired_any {w : World} {c : Nat} {s : S7} {p : Pg} {lv : Value} {st sk : Int} (hC : Ck w c s lv st sk) (hP : Pv w s p) (hT : RT w) (hn : s.m6 ≤ 1000000) (h0 : 0 < s.m6) (pc : Nat) (hpc : pc < s.m6) (i : Ins) (hA : i.1 = 19 → (pc : Int) < i.2.2.2 ∧ i.2.2.2 < (s.m6 : Int)) :
    Calls Tryd.prog 25 #[.pointer (some ⟨c, 0, none⟩), .int .i64 (pc : Nat), .agg #[.int .i64 i.1, .int .i64 i.2.1, .int .i64 i.2.2.1, .int .i64 i.2.2.2]] w fun e w' => e = .returned (.bool (prB p.co pc i)) ∧ Below w.heap.size w w' := by
  have X1 := hid (Bx.new w #[.int .i64 i.1, .int .i64 i.2.1, .int .i64 i.2.2.1, .int .i64 i.2.2.2] 37 (by decide))
  have B1 := hid (allocB w (.cells #[.int .i64 i.1, .int .i64 i.2.1, .int .i64 i.2.2.1, .int .i64 i.2.2.2] 37))
  obtain ⟨q, hq⟩ : ∃ q, q = w.heap.size := ⟨_, rfl⟩
  have WR := hid hq
  rw [← hq] at X1
  clear hq
  have KN := hid (code_Name_any i.1 _ (hT.next B1.out))
  have TT := hid hT
  obtain ⟨nm, hnm⟩ : ∃ nm, opN i.1 = nm := ⟨_, rfl⟩
  rw [hnm] at KN
  obtain ⟨g, o, ea, hI⟩ := ins_all hP.k6 h0
  have IC := hid hI
  have c6 : w.cell? ⟨c, 6, none⟩ = some (.slice (some ⟨g, o, none⟩) s.m6 s.c6) := by rw [← ea]; exact hC.cell 6 _ rfl
  have C6 := hid c6
  have V6 := hid hP.k6
  have pb : (pc : Int) ≤ 1000000 := by omega
  clear hC hP hT ea hI c6
  by_cases h19 : i.1 = 19
  · rw [show prB p.co pc i = hfB p.co pc i 20 from by unfold prB; rw [if_pos h19]]
    obtain ⟨a1, a2⟩ := hA h19
    obtain ⟨k, hd⟩ : ∃ k : Nat, i.2.2.2 = (k : Int) + 1 := ⟨(i.2.2.2 - 1).toNat, by omega⟩
    have hk : k < s.m6 := by omega
    have hk' : (k : Int) < s.m6 := by omega
    have hk2 : (k : Int) ≤ 1000000 := by omega
    obtain ⟨x, hx⟩ := Vw.ex V6.out hk
    have z19 : (nm.toList == [102, 105, 114, 115, 116]) = true := by rw [← hnm]; exact nm_yes i.1 19 _ rfl h19
    clear hnm h19 hA a1 a2
    have KM := hid (fun W (b : Below w.heap.size w W) => code_Name_any x.1 W (TT.out.next b))
    obtain ⟨nx, hnx⟩ : ∃ nx, opN x.1 = nx := ⟨_, rfl⟩
    rw [hnx] at KM
    obtain ⟨e0, e1, e2, e3⟩ := IC.out k x hx
    have HH := hid (show hfB p.co pc i 20 = (decide (x.1 = 20) && decide (x.2.1 = i.2.1) && decide (x.2.2.1 = i.2.2.1) && decide (x.2.2.2 = (pc : Int) + 1)) from by unfold hfB; rw [hd, show ((k : Int) + 1 - 1).toNat = k from by omega, hx])
    rw [HH.out]
    have HD := hid hd
    have XC := hid (And.intro e0 (And.intro e1 (And.intro e2 e3)))
    clear HH hx hd e0 e1 e2 e3
    by_cases qn : x.1 = 20
    · rw [decide_eq_true qn, Bool.true_and]
      have zx : (nx.toList == [110, 101, 120, 116]) = true := by rw [← hnx]; exact nm_yes x.1 20 _ rfl qn
      clear qn
      by_cases qa : x.2.1 = i.2.1
      · rw [decide_eq_true qa, Bool.true_and]
        have za : (x.2.1 == i.2.1) = true := by simpa using qa
        clear qa
        by_cases qb : x.2.2.1 = i.2.2.1
        · rw [decide_eq_true qb, Bool.true_and]
          have zb : (x.2.2.1 == i.2.2.1) = true := by simpa using qb
          clear qb
          by_cases qd : x.2.2.2 = (pc : Int) + 1
          · rw [decide_eq_true qd]
            have zd : (x.2.2.2 == (pc : Int) + 1) = true := by simpa using qd
            clear qd
            clear hnx
            go_enter Tryd.func25, Tryd.ntmps25
            go_upto_region 1 with fail
            rw [← WR.out]
            generalize World.alloc w _ = w1 at *
            have x0 := X1.out.cell 0 _ rfl
            go_upto_region 9 with (go_at_call 21; (with_reducible refine Calls.mono KN.out ?_); rintro e w2 ⟨rfl, b2⟩; have B2 := hid (nxB B1.out b2); have X2 := hid (Bx.next X1.out b2); obtain ⟨_, x1, x2, x3⟩ := Bx.q4 X2.out; rw [HD.out] at x3; clear b2)
            clear x0 X1 KN
            obtain ⟨e0, e1, e2, e3⟩ := XC.out
            have c6 := celB B2.out C6.out
            have k0 := celB B2.out e0
            have k1 := celB B2.out e1
            have k2 := celB B2.out e2
            have k3 := celB B2.out e3
            have AL := allocB w2 (.cells #[.int .i64 0, .int .i64 0, .int .i64 0, .int .i64 0] 37)
            have a3 := celB AL x3
            have a6 := celB AL c6
            have b0 := celB AL k0
            have b1 := celB AL k1
            have b2 := celB AL k2
            have b3 := celB AL k3
            have A9 := hid (nxB (allocB w2 (.cells #[.int .i64 x.1, .int .i64 x.2.1, .int .i64 x.2.2.1, .int .i64 x.2.2.2] 37)) (dw1 _))
            have X9 := hid (Bx.next (Bx.new w2 #[.int .i64 x.1, .int .i64 x.2.1, .int .i64 x.2.2.1, .int .i64 x.2.2.2] 37 (by decide)) (dw1 _))
            have B9 := hid (nxB B2.out A9.out)
            have Y9 := hid (Bx.next X2.out A9.out)
            clear AL e0 e1 e2 e3
            go_region
            clear x1 x2 x3 c6 k0 k1 k2 k3 a3 a6 b0 b1 b2 b3 A9 B2 X2
            generalize (World.alloc w2 _).drew = w4 at *
            generalize w2.heap.size = r at *
            obtain ⟨x0, x1, x2, x3⟩ := Bx.q4 X9.out
            obtain ⟨y0, y1, y2, y3⟩ := Bx.q4 Y9.out
            have KQ := hid (KM.out _ B9.out)
            go_wp2_with (go_at_call 21; (with_reducible refine Calls.mono KQ.out ?_); rintro e w5 ⟨rfl, b5⟩; have B5 := hid (nxB B9.out b5); have X5 := hid (Bx.next X9.out b5); have Y5 := hid (Bx.next Y9.out b5); clear x0 x1 x2 x3 y0 y1 y2 y3; obtain ⟨x0, x1, x2, x3⟩ := Bx.q4 X5.out; obtain ⟨y0, y1, y2, y3⟩ := Bx.q4 Y5.out; clear b5)
            go_ret
            exact ⟨rfl, B5.out⟩
          · rw [decide_eq_false qd]
            have zd : (x.2.2.2 == (pc : Int) + 1) = false := by simpa using qd
            clear qd
            clear hnx
            go_enter Tryd.func25, Tryd.ntmps25
            go_upto_region 1 with fail
            rw [← WR.out]
            generalize World.alloc w _ = w1 at *
            have x0 := X1.out.cell 0 _ rfl
            go_upto_region 9 with (go_at_call 21; (with_reducible refine Calls.mono KN.out ?_); rintro e w2 ⟨rfl, b2⟩; have B2 := hid (nxB B1.out b2); have X2 := hid (Bx.next X1.out b2); obtain ⟨_, x1, x2, x3⟩ := Bx.q4 X2.out; rw [HD.out] at x3; clear b2)
            clear x0 X1 KN
            obtain ⟨e0, e1, e2, e3⟩ := XC.out
            have c6 := celB B2.out C6.out
            have k0 := celB B2.out e0
            have k1 := celB B2.out e1
            have k2 := celB B2.out e2
            have k3 := celB B2.out e3
            have AL := allocB w2 (.cells #[.int .i64 0, .int .i64 0, .int .i64 0, .int .i64 0] 37)
            have a3 := celB AL x3
            have a6 := celB AL c6
            have b0 := celB AL k0
            have b1 := celB AL k1
            have b2 := celB AL k2
            have b3 := celB AL k3
            have A9 := hid (nxB (allocB w2 (.cells #[.int .i64 x.1, .int .i64 x.2.1, .int .i64 x.2.2.1, .int .i64 x.2.2.2] 37)) (dw1 _))
            have X9 := hid (Bx.next (Bx.new w2 #[.int .i64 x.1, .int .i64 x.2.1, .int .i64 x.2.2.1, .int .i64 x.2.2.2] 37 (by decide)) (dw1 _))
            have B9 := hid (nxB B2.out A9.out)
            have Y9 := hid (Bx.next X2.out A9.out)
            clear AL e0 e1 e2 e3
            go_region
            clear x1 x2 x3 c6 k0 k1 k2 k3 a3 a6 b0 b1 b2 b3 A9 B2 X2
            generalize (World.alloc w2 _).drew = w4 at *
            generalize w2.heap.size = r at *
            obtain ⟨x0, x1, x2, x3⟩ := Bx.q4 X9.out
            obtain ⟨y0, y1, y2, y3⟩ := Bx.q4 Y9.out
            have KQ := hid (KM.out _ B9.out)
            go_wp2_with (go_at_call 21; (with_reducible refine Calls.mono KQ.out ?_); rintro e w5 ⟨rfl, b5⟩; have B5 := hid (nxB B9.out b5); have X5 := hid (Bx.next X9.out b5); have Y5 := hid (Bx.next Y9.out b5); clear x0 x1 x2 x3 y0 y1 y2 y3; obtain ⟨x0, x1, x2, x3⟩ := Bx.q4 X5.out; obtain ⟨y0, y1, y2, y3⟩ := Bx.q4 Y5.out; clear b5)
            go_ret
            exact ⟨rfl, B5.out⟩
        · rw [decide_eq_false qb, Bool.false_and]
          have zb : (x.2.2.1 == i.2.2.1) = false := by simpa using qb
          clear qb
          clear hnx
          go_enter Tryd.func25, Tryd.ntmps25
          go_upto_region 1 with fail
          rw [← WR.out]
          generalize World.alloc w _ = w1 at *
          have x0 := X1.out.cell 0 _ rfl
          go_upto_region 9 with (go_at_call 21; (with_reducible refine Calls.mono KN.out ?_); rintro e w2 ⟨rfl, b2⟩; have B2 := hid (nxB B1.out b2); have X2 := hid (Bx.next X1.out b2); obtain ⟨_, x1, x2, x3⟩ := Bx.q4 X2.out; rw [HD.out] at x3; clear b2)
          clear x0 X1 KN
          obtain ⟨e0, e1, e2, e3⟩ := XC.out
          have c6 := celB B2.out C6.out
          have k0 := celB B2.out e0
          have k1 := celB B2.out e1
          have k2 := celB B2.out e2
          have k3 := celB B2.out e3
          have AL := allocB w2 (.cells #[.int .i64 0, .int .i64 0, .int .i64 0, .int .i64 0] 37)
          have a3 := celB AL x3
          have a6 := celB AL c6
          have b0 := celB AL k0
          have b1 := celB AL k1
          have b2 := celB AL k2
          have b3 := celB AL k3
          have A9 := hid (nxB (allocB w2 (.cells #[.int .i64 x.1, .int .i64 x.2.1, .int .i64 x.2.2.1, .int .i64 x.2.2.2] 37)) (dw1 _))
          have X9 := hid (Bx.next (Bx.new w2 #[.int .i64 x.1, .int .i64 x.2.1, .int .i64 x.2.2.1, .int .i64 x.2.2.2] 37 (by decide)) (dw1 _))
          have B9 := hid (nxB B2.out A9.out)
          have Y9 := hid (Bx.next X2.out A9.out)
          clear AL e0 e1 e2 e3
          go_region
          clear x1 x2 x3 c6 k0 k1 k2 k3 a3 a6 b0 b1 b2 b3 A9 B2 X2
          generalize (World.alloc w2 _).drew = w4 at *
          generalize w2.heap.size = r at *
          obtain ⟨x0, x1, x2, x3⟩ := Bx.q4 X9.out
          obtain ⟨y0, y1, y2, y3⟩ := Bx.q4 Y9.out
          have KQ := hid (KM.out _ B9.out)
          go_wp2_with (go_at_call 21; (with_reducible refine Calls.mono KQ.out ?_); rintro e w5 ⟨rfl, b5⟩; have B5 := hid (nxB B9.out b5); have X5 := hid (Bx.next X9.out b5); have Y5 := hid (Bx.next Y9.out b5); clear x0 x1 x2 x3 y0 y1 y2 y3; obtain ⟨x0, x1, x2, x3⟩ := Bx.q4 X5.out; obtain ⟨y0, y1, y2, y3⟩ := Bx.q4 Y5.out; clear b5)
          go_ret
          exact ⟨rfl, B5.out⟩
      · rw [decide_eq_false qa, Bool.false_and, Bool.false_and]
        have za : (x.2.1 == i.2.1) = false := by simpa using qa
        clear qa
        clear hnx
        go_enter Tryd.func25, Tryd.ntmps25
        go_upto_region 1 with fail
        rw [← WR.out]
        generalize World.alloc w _ = w1 at *
        have x0 := X1.out.cell 0 _ rfl
        go_upto_region 9 with (go_at_call 21; (with_reducible refine Calls.mono KN.out ?_); rintro e w2 ⟨rfl, b2⟩; have B2 := hid (nxB B1.out b2); have X2 := hid (Bx.next X1.out b2); obtain ⟨_, x1, x2, x3⟩ := Bx.q4 X2.out; rw [HD.out] at x3; clear b2)
        clear x0 X1 KN
        obtain ⟨e0, e1, e2, e3⟩ := XC.out
        have c6 := celB B2.out C6.out
        have k0 := celB B2.out e0
        have k1 := celB B2.out e1
        have k2 := celB B2.out e2
        have k3 := celB B2.out e3
        have AL := allocB w2 (.cells #[.int .i64 0, .int .i64 0, .int .i64 0, .int .i64 0] 37)
        have a3 := celB AL x3
        have a6 := celB AL c6
        have b0 := celB AL k0
        have b1 := celB AL k1
        have b2 := celB AL k2
        have b3 := celB AL k3
        have A9 := hid (nxB (allocB w2 (.cells #[.int .i64 x.1, .int .i64 x.2.1, .int .i64 x.2.2.1, .int .i64 x.2.2.2] 37)) (dw1 _))
        have X9 := hid (Bx.next (Bx.new w2 #[.int .i64 x.1, .int .i64 x.2.1, .int .i64 x.2.2.1, .int .i64 x.2.2.2] 37 (by decide)) (dw1 _))
        have B9 := hid (nxB B2.out A9.out)
        have Y9 := hid (Bx.next X2.out A9.out)
        clear AL e0 e1 e2 e3
        go_region
        clear x1 x2 x3 c6 k0 k1 k2 k3 a3 a6 b0 b1 b2 b3 A9 B2 X2
        generalize (World.alloc w2 _).drew = w4 at *
        generalize w2.heap.size = r at *
        obtain ⟨x0, x1, x2, x3⟩ := Bx.q4 X9.out
        obtain ⟨y0, y1, y2, y3⟩ := Bx.q4 Y9.out
        have KQ := hid (KM.out _ B9.out)
        go_wp2_with (go_at_call 21; (with_reducible refine Calls.mono KQ.out ?_); rintro e w5 ⟨rfl, b5⟩; have B5 := hid (nxB B9.out b5); have X5 := hid (Bx.next X9.out b5); have Y5 := hid (Bx.next Y9.out b5); clear x0 x1 x2 x3 y0 y1 y2 y3; obtain ⟨x0, x1, x2, x3⟩ := Bx.q4 X5.out; obtain ⟨y0, y1, y2, y3⟩ := Bx.q4 Y5.out; clear b5)
        go_ret
        exact ⟨rfl, B5.out⟩
    · rw [decide_eq_false qn, Bool.false_and, Bool.false_and, Bool.false_and]
      have zx : (nx.toList == [110, 101, 120, 116]) = false := by rw [← hnx]; exact nm_no x.1 20 _ rfl qn
      clear qn
      clear hnx
      go_enter Tryd.func25, Tryd.ntmps25
      go_upto_region 1 with fail
      rw [← WR.out]
      generalize World.alloc w _ = w1 at *
      have x0 := X1.out.cell 0 _ rfl
      go_upto_region 9 with (go_at_call 21; (with_reducible refine Calls.mono KN.out ?_); rintro e w2 ⟨rfl, b2⟩; have B2 := hid (nxB B1.out b2); have X2 := hid (Bx.next X1.out b2); obtain ⟨_, x1, x2, x3⟩ := Bx.q4 X2.out; rw [HD.out] at x3; clear b2)
      clear x0 X1 KN
      obtain ⟨e0, e1, e2, e3⟩ := XC.out
      have c6 := celB B2.out C6.out
      have k0 := celB B2.out e0
      have k1 := celB B2.out e1
      have k2 := celB B2.out e2
      have k3 := celB B2.out e3
      have AL := allocB w2 (.cells #[.int .i64 0, .int .i64 0, .int .i64 0, .int .i64 0] 37)
      have a3 := celB AL x3
      have a6 := celB AL c6
      have b0 := celB AL k0
      have b1 := celB AL k1
      have b2 := celB AL k2
      have b3 := celB AL k3
      have A9 := hid (nxB (allocB w2 (.cells #[.int .i64 x.1, .int .i64 x.2.1, .int .i64 x.2.2.1, .int .i64 x.2.2.2] 37)) (dw1 _))
      have X9 := hid (Bx.next (Bx.new w2 #[.int .i64 x.1, .int .i64 x.2.1, .int .i64 x.2.2.1, .int .i64 x.2.2.2] 37 (by decide)) (dw1 _))
      have B9 := hid (nxB B2.out A9.out)
      have Y9 := hid (Bx.next X2.out A9.out)
      clear AL e0 e1 e2 e3
      go_region
      clear x1 x2 x3 c6 k0 k1 k2 k3 a3 a6 b0 b1 b2 b3 A9 B2 X2
      generalize (World.alloc w2 _).drew = w4 at *
      generalize w2.heap.size = r at *
      obtain ⟨x0, x1, x2, x3⟩ := Bx.q4 X9.out
      obtain ⟨y0, y1, y2, y3⟩ := Bx.q4 Y9.out
      have KQ := hid (KM.out _ B9.out)
      go_wp2_with (go_at_call 21; (with_reducible refine Calls.mono KQ.out ?_); rintro e w5 ⟨rfl, b5⟩; have B5 := hid (nxB B9.out b5); have X5 := hid (Bx.next X9.out b5); have Y5 := hid (Bx.next Y9.out b5); clear x0 x1 x2 x3 y0 y1 y2 y3; obtain ⟨x0, x1, x2, x3⟩ := Bx.q4 X5.out; obtain ⟨y0, y1, y2, y3⟩ := Bx.q4 Y5.out; clear b5)
      go_ret
      exact ⟨rfl, B5.out⟩
  · by_cases h20 : i.1 = 20
    · rw [show prB p.co pc i = (!(decide (i.2.2.2 < 1) || decide ((pc : Int) < i.2.2.2)) && hfB p.co pc i 19) from by unfold prB; rw [if_neg h19, if_pos h20]]
      have z20 : (nm.toList == [110, 101, 120, 116]) = true := by rw [← hnm]; exact nm_yes i.1 20 _ rfl h20
      have z19 : (nm.toList == [102, 105, 114, 115, 116]) = false := by rw [← hnm]; exact nm_no i.1 19 _ rfl h19
      clear hnm h19 h20 hA
      by_cases d1 : i.2.2.2 < 1
      · rw [decide_eq_true d1, Bool.true_or, show (!true && hfB p.co pc i 19) = false from rfl]
        go_enter Tryd.func25, Tryd.ntmps25
        go_upto_region 1 with fail
        rw [← WR.out]
        generalize World.alloc w _ = w1 at *
        have x0 := X1.out.cell 0 _ rfl
        go_wp2_with (go_at_call 21; (with_reducible refine Calls.mono KN.out ?_); rintro e w2 ⟨rfl, b2⟩; have B2 := hid (nxB B1.out b2); have X2 := hid (Bx.next X1.out b2); obtain ⟨_, x1, x2, x3⟩ := Bx.q4 X2.out; clear b2)
        clear x0 X1 KN
        go_ret
        exact ⟨rfl, B2.out⟩
      · by_cases d2 : (pc : Int) < i.2.2.2
        · rw [decide_eq_false d1, decide_eq_true d2, show (!(false || true) && hfB p.co pc i 19) = false from rfl]
          have dd : decide (i.2.2.2 < 1) = false := decide_eq_false d1
          clear d1
          go_enter Tryd.func25, Tryd.ntmps25
          go_upto_region 1 with fail
          rw [← WR.out]
          generalize World.alloc w _ = w1 at *
          have x0 := X1.out.cell 0 _ rfl
          go_wp2_with (go_at_call 21; (with_reducible refine Calls.mono KN.out ?_); rintro e w2 ⟨rfl, b2⟩; have B2 := hid (nxB B1.out b2); have X2 := hid (Bx.next X1.out b2); obtain ⟨_, x1, x2, x3⟩ := Bx.q4 X2.out; clear b2)
          clear x0 X1 KN
          go_ret
          exact ⟨rfl, B2.out⟩
        · rw [decide_eq_false d1, decide_eq_false d2, show (!(false || false) && hfB p.co pc i 19) = hfB p.co pc i 19 from by simp]
          obtain ⟨k, hd⟩ : ∃ k : Nat, i.2.2.2 = (k : Int) + 1 := ⟨(i.2.2.2 - 1).toNat, by omega⟩
          have hk : k < s.m6 := by omega
          have hk' : (k : Int) < s.m6 := by omega
          have hk2 : (k : Int) ≤ 1000000 := by omega
          have k1' : ¬ ((k : Int) + 1 < 1) := by omega
          have k2' : ¬ ((pc : Int) < (k : Int) + 1) := by omega
          obtain ⟨x, hx⟩ := Vw.ex V6.out hk
          clear d1 d2
          have KM := hid (fun W (b : Below w.heap.size w W) => code_Name_any x.1 W (TT.out.next b))
          obtain ⟨nx, hnx⟩ : ∃ nx, opN x.1 = nx := ⟨_, rfl⟩
          rw [hnx] at KM
          obtain ⟨e0, e1, e2, e3⟩ := IC.out k x hx
          have HH := hid (show hfB p.co pc i 19 = (decide (x.1 = 19) && decide (x.2.1 = i.2.1) && decide (x.2.2.1 = i.2.2.1) && decide (x.2.2.2 = (pc : Int) + 1)) from by unfold hfB; rw [hd, show ((k : Int) + 1 - 1).toNat = k from by omega, hx])
          rw [HH.out]
          have HD := hid hd
          have XC := hid (And.intro e0 (And.intro e1 (And.intro e2 e3)))
          clear HH hx hd e0 e1 e2 e3
          by_cases qn : x.1 = 19
          · rw [decide_eq_true qn, Bool.true_and]
            have zx : (nx.toList == [102, 105, 114, 115, 116]) = true := by rw [← hnx]; exact nm_yes x.1 19 _ rfl qn
            clear qn
            by_cases qa : x.2.1 = i.2.1
            · rw [decide_eq_true qa, Bool.true_and]
              have za : (x.2.1 == i.2.1) = true := by simpa using qa
              clear qa
              by_cases qb : x.2.2.1 = i.2.2.1
              · rw [decide_eq_true qb, Bool.true_and]
                have zb : (x.2.2.1 == i.2.2.1) = true := by simpa using qb
                clear qb
                by_cases qd : x.2.2.2 = (pc : Int) + 1
                · rw [decide_eq_true qd]
                  have zd : (x.2.2.2 == (pc : Int) + 1) = true := by simpa using qd
                  clear qd
                  clear hnx
                  go_enter Tryd.func25, Tryd.ntmps25
                  go_upto_region 1 with fail
                  rw [← WR.out]
                  generalize World.alloc w _ = w1 at *
                  have x0 := X1.out.cell 0 _ rfl
                  go_upto_region 9 with (go_at_call 21; (with_reducible refine Calls.mono KN.out ?_); rintro e w2 ⟨rfl, b2⟩; have B2 := hid (nxB B1.out b2); have X2 := hid (Bx.next X1.out b2); obtain ⟨_, x1, x2, x3⟩ := Bx.q4 X2.out; rw [HD.out] at x3; clear b2)
                  clear x0 X1 KN
                  obtain ⟨e0, e1, e2, e3⟩ := XC.out
                  have c6 := celB B2.out C6.out
                  have k0 := celB B2.out e0
                  have k1 := celB B2.out e1
                  have k2 := celB B2.out e2
                  have k3 := celB B2.out e3
                  have AL := allocB w2 (.cells #[.int .i64 0, .int .i64 0, .int .i64 0, .int .i64 0] 37)
                  have a3 := celB AL x3
                  have a6 := celB AL c6
                  have b0 := celB AL k0
                  have b1 := celB AL k1
                  have b2 := celB AL k2
                  have b3 := celB AL k3
                  have A9 := hid (nxB (allocB w2 (.cells #[.int .i64 x.1, .int .i64 x.2.1, .int .i64 x.2.2.1, .int .i64 x.2.2.2] 37)) (dw1 _))
                  have X9 := hid (Bx.next (Bx.new w2 #[.int .i64 x.1, .int .i64 x.2.1, .int .i64 x.2.2.1, .int .i64 x.2.2.2] 37 (by decide)) (dw1 _))
                  have B9 := hid (nxB B2.out A9.out)
                  have Y9 := hid (Bx.next X2.out A9.out)
                  clear AL e0 e1 e2 e3
                  go_region
                  clear x1 x2 x3 c6 k0 k1 k2 k3 a3 a6 b0 b1 b2 b3 A9 B2 X2
                  generalize (World.alloc w2 _).drew = w4 at *
                  generalize w2.heap.size = r at *
                  obtain ⟨x0, x1, x2, x3⟩ := Bx.q4 X9.out
                  obtain ⟨y0, y1, y2, y3⟩ := Bx.q4 Y9.out
                  have KQ := hid (KM.out _ B9.out)
                  go_wp2_with (go_at_call 21; (with_reducible refine Calls.mono KQ.out ?_); rintro e w5 ⟨rfl, b5⟩; have B5 := hid (nxB B9.out b5); have X5 := hid (Bx.next X9.out b5); have Y5 := hid (Bx.next Y9.out b5); clear x0 x1 x2 x3 y0 y1 y2 y3; obtain ⟨x0, x1, x2, x3⟩ := Bx.q4 X5.out; obtain ⟨y0, y1, y2, y3⟩ := Bx.q4 Y5.out; clear b5)
                  go_ret
                  exact ⟨rfl, B5.out⟩
                · rw [decide_eq_false qd]
                  have zd : (x.2.2.2 == (pc : Int) + 1) = false := by simpa using qd
                  clear qd
                  clear hnx
                  go_enter Tryd.func25, Tryd.ntmps25
                  go_upto_region 1 with fail
                  rw [← WR.out]
                  generalize World.alloc w _ = w1 at *
                  have x0 := X1.out.cell 0 _ rfl
                  go_upto_region 9 with (go_at_call 21; (with_reducible refine Calls.mono KN.out ?_); rintro e w2 ⟨rfl, b2⟩; have B2 := hid (nxB B1.out b2); have X2 := hid (Bx.next X1.out b2); obtain ⟨_, x1, x2, x3⟩ := Bx.q4 X2.out; rw [HD.out] at x3; clear b2)
                  clear x0 X1 KN
                  obtain ⟨e0, e1, e2, e3⟩ := XC.out
                  have c6 := celB B2.out C6.out
                  have k0 := celB B2.out e0
                  have k1 := celB B2.out e1
                  have k2 := celB B2.out e2
                  have k3 := celB B2.out e3
                  have AL := allocB w2 (.cells #[.int .i64 0, .int .i64 0, .int .i64 0, .int .i64 0] 37)
                  have a3 := celB AL x3
                  have a6 := celB AL c6
                  have b0 := celB AL k0
                  have b1 := celB AL k1
                  have b2 := celB AL k2
                  have b3 := celB AL k3
                  have A9 := hid (nxB (allocB w2 (.cells #[.int .i64 x.1, .int .i64 x.2.1, .int .i64 x.2.2.1, .int .i64 x.2.2.2] 37)) (dw1 _))
                  have X9 := hid (Bx.next (Bx.new w2 #[.int .i64 x.1, .int .i64 x.2.1, .int .i64 x.2.2.1, .int .i64 x.2.2.2] 37 (by decide)) (dw1 _))
                  have B9 := hid (nxB B2.out A9.out)
                  have Y9 := hid (Bx.next X2.out A9.out)
                  clear AL e0 e1 e2 e3
                  go_region
                  clear x1 x2 x3 c6 k0 k1 k2 k3 a3 a6 b0 b1 b2 b3 A9 B2 X2
                  generalize (World.alloc w2 _).drew = w4 at *
                  generalize w2.heap.size = r at *
                  obtain ⟨x0, x1, x2, x3⟩ := Bx.q4 X9.out
                  obtain ⟨y0, y1, y2, y3⟩ := Bx.q4 Y9.out
                  have KQ := hid (KM.out _ B9.out)
                  go_wp2_with (go_at_call 21; (with_reducible refine Calls.mono KQ.out ?_); rintro e w5 ⟨rfl, b5⟩; have B5 := hid (nxB B9.out b5); have X5 := hid (Bx.next X9.out b5); have Y5 := hid (Bx.next Y9.out b5); clear x0 x1 x2 x3 y0 y1 y2 y3; obtain ⟨x0, x1, x2, x3⟩ := Bx.q4 X5.out; obtain ⟨y0, y1, y2, y3⟩ := Bx.q4 Y5.out; clear b5)
                  go_ret
                  exact ⟨rfl, B5.out⟩
              · rw [decide_eq_false qb, Bool.false_and]
                have zb : (x.2.2.1 == i.2.2.1) = false := by simpa using qb
                clear qb
                clear hnx
                go_enter Tryd.func25, Tryd.ntmps25
                go_upto_region 1 with fail
                rw [← WR.out]
                generalize World.alloc w _ = w1 at *
                have x0 := X1.out.cell 0 _ rfl
                go_upto_region 9 with (go_at_call 21; (with_reducible refine Calls.mono KN.out ?_); rintro e w2 ⟨rfl, b2⟩; have B2 := hid (nxB B1.out b2); have X2 := hid (Bx.next X1.out b2); obtain ⟨_, x1, x2, x3⟩ := Bx.q4 X2.out; rw [HD.out] at x3; clear b2)
                clear x0 X1 KN
                obtain ⟨e0, e1, e2, e3⟩ := XC.out
                have c6 := celB B2.out C6.out
                have k0 := celB B2.out e0
                have k1 := celB B2.out e1
                have k2 := celB B2.out e2
                have k3 := celB B2.out e3
                have AL := allocB w2 (.cells #[.int .i64 0, .int .i64 0, .int .i64 0, .int .i64 0] 37)
                have a3 := celB AL x3
                have a6 := celB AL c6
                have b0 := celB AL k0
                have b1 := celB AL k1
                have b2 := celB AL k2
                have b3 := celB AL k3
                have A9 := hid (nxB (allocB w2 (.cells #[.int .i64 x.1, .int .i64 x.2.1, .int .i64 x.2.2.1, .int .i64 x.2.2.2] 37)) (dw1 _))
                have X9 := hid (Bx.next (Bx.new w2 #[.int .i64 x.1, .int .i64 x.2.1, .int .i64 x.2.2.1, .int .i64 x.2.2.2] 37 (by decide)) (dw1 _))
                have B9 := hid (nxB B2.out A9.out)
                have Y9 := hid (Bx.next X2.out A9.out)
                clear AL e0 e1 e2 e3
                go_region
                clear x1 x2 x3 c6 k0 k1 k2 k3 a3 a6 b0 b1 b2 b3 A9 B2 X2
                generalize (World.alloc w2 _).drew = w4 at *
                generalize w2.heap.size = r at *
                obtain ⟨x0, x1, x2, x3⟩ := Bx.q4 X9.out
                obtain ⟨y0, y1, y2, y3⟩ := Bx.q4 Y9.out
                have KQ := hid (KM.out _ B9.out)
                go_wp2_with (go_at_call 21; (with_reducible refine Calls.mono KQ.out ?_); rintro e w5 ⟨rfl, b5⟩; have B5 := hid (nxB B9.out b5); have X5 := hid (Bx.next X9.out b5); have Y5 := hid (Bx.next Y9.out b5); clear x0 x1 x2 x3 y0 y1 y2 y3; obtain ⟨x0, x1, x2, x3⟩ := Bx.q4 X5.out; obtain ⟨y0, y1, y2, y3⟩ := Bx.q4 Y5.out; clear b5)
                go_ret
                exact ⟨rfl, B5.out⟩
            · rw [decide_eq_false qa, Bool.false_and, Bool.false_and]
              have za : (x.2.1 == i.2.1) = false := by simpa using qa
              clear qa
              clear hnx
              go_enter Tryd.func25, Tryd.ntmps25
              go_upto_region 1 with fail
              rw [← WR.out]
              generalize World.alloc w _ = w1 at *
              have x0 := X1.out.cell 0 _ rfl
              go_upto_region 9 with (go_at_call 21; (with_reducible refine Calls.mono KN.out ?_); rintro e w2 ⟨rfl, b2⟩; have B2 := hid (nxB B1.out b2); have X2 := hid (Bx.next X1.out b2); obtain ⟨_, x1, x2, x3⟩ := Bx.q4 X2.out; rw [HD.out] at x3; clear b2)
              clear x0 X1 KN
              obtain ⟨e0, e1, e2, e3⟩ := XC.out
              have c6 := celB B2.out C6.out
              have k0 := celB B2.out e0
              have k1 := celB B2.out e1
              have k2 := celB B2.out e2
              have k3 := celB B2.out e3
              have AL := allocB w2 (.cells #[.int .i64 0, .int .i64 0, .int .i64 0, .int .i64 0] 37)
              have a3 := celB AL x3
              have a6 := celB AL c6
              have b0 := celB AL k0
              have b1 := celB AL k1
              have b2 := celB AL k2
              have b3 := celB AL k3
              have A9 := hid (nxB (allocB w2 (.cells #[.int .i64 x.1, .int .i64 x.2.1, .int .i64 x.2.2.1, .int .i64 x.2.2.2] 37)) (dw1 _))
              have X9 := hid (Bx.next (Bx.new w2 #[.int .i64 x.1, .int .i64 x.2.1, .int .i64 x.2.2.1, .int .i64 x.2.2.2] 37 (by decide)) (dw1 _))
              have B9 := hid (nxB B2.out A9.out)
              have Y9 := hid (Bx.next X2.out A9.out)
              clear AL e0 e1 e2 e3
              go_region
              clear x1 x2 x3 c6 k0 k1 k2 k3 a3 a6 b0 b1 b2 b3 A9 B2 X2
              generalize (World.alloc w2 _).drew = w4 at *
              generalize w2.heap.size = r at *
              obtain ⟨x0, x1, x2, x3⟩ := Bx.q4 X9.out
              obtain ⟨y0, y1, y2, y3⟩ := Bx.q4 Y9.out
              have KQ := hid (KM.out _ B9.out)
              go_wp2_with (go_at_call 21; (with_reducible refine Calls.mono KQ.out ?_); rintro e w5 ⟨rfl, b5⟩; have B5 := hid (nxB B9.out b5); have X5 := hid (Bx.next X9.out b5); have Y5 := hid (Bx.next Y9.out b5); clear x0 x1 x2 x3 y0 y1 y2 y3; obtain ⟨x0, x1, x2, x3⟩ := Bx.q4 X5.out; obtain ⟨y0, y1, y2, y3⟩ := Bx.q4 Y5.out; clear b5)
              go_ret
              exact ⟨rfl, B5.out⟩
          · rw [decide_eq_false qn, Bool.false_and, Bool.false_and, Bool.false_and]
            have zx : (nx.toList == [102, 105, 114, 115, 116]) = false := by rw [← hnx]; exact nm_no x.1 19 _ rfl qn
            clear qn
            clear hnx
            go_enter Tryd.func25, Tryd.ntmps25
            go_upto_region 1 with fail
            rw [← WR.out]
            generalize World.alloc w _ = w1 at *
            have x0 := X1.out.cell 0 _ rfl
            go_upto_region 9 with (go_at_call 21; (with_reducible refine Calls.mono KN.out ?_); rintro e w2 ⟨rfl, b2⟩; have B2 := hid (nxB B1.out b2); have X2 := hid (Bx.next X1.out b2); obtain ⟨_, x1, x2, x3⟩ := Bx.q4 X2.out; rw [HD.out] at x3; clear b2)
            clear x0 X1 KN
            obtain ⟨e0, e1, e2, e3⟩ := XC.out
            have c6 := celB B2.out C6.out
            have k0 := celB B2.out e0
            have k1 := celB B2.out e1
            have k2 := celB B2.out e2
            have k3 := celB B2.out e3
            have AL := allocB w2 (.cells #[.int .i64 0, .int .i64 0, .int .i64 0, .int .i64 0] 37)
            have a3 := celB AL x3
            have a6 := celB AL c6
            have b0 := celB AL k0
            have b1 := celB AL k1
            have b2 := celB AL k2
            have b3 := celB AL k3
            have A9 := hid (nxB (allocB w2 (.cells #[.int .i64 x.1, .int .i64 x.2.1, .int .i64 x.2.2.1, .int .i64 x.2.2.2] 37)) (dw1 _))
            have X9 := hid (Bx.next (Bx.new w2 #[.int .i64 x.1, .int .i64 x.2.1, .int .i64 x.2.2.1, .int .i64 x.2.2.2] 37 (by decide)) (dw1 _))
            have B9 := hid (nxB B2.out A9.out)
            have Y9 := hid (Bx.next X2.out A9.out)
            clear AL e0 e1 e2 e3
            go_region
            clear x1 x2 x3 c6 k0 k1 k2 k3 a3 a6 b0 b1 b2 b3 A9 B2 X2
            generalize (World.alloc w2 _).drew = w4 at *
            generalize w2.heap.size = r at *
            obtain ⟨x0, x1, x2, x3⟩ := Bx.q4 X9.out
            obtain ⟨y0, y1, y2, y3⟩ := Bx.q4 Y9.out
            have KQ := hid (KM.out _ B9.out)
            go_wp2_with (go_at_call 21; (with_reducible refine Calls.mono KQ.out ?_); rintro e w5 ⟨rfl, b5⟩; have B5 := hid (nxB B9.out b5); have X5 := hid (Bx.next X9.out b5); have Y5 := hid (Bx.next Y9.out b5); clear x0 x1 x2 x3 y0 y1 y2 y3; obtain ⟨x0, x1, x2, x3⟩ := Bx.q4 X5.out; obtain ⟨y0, y1, y2, y3⟩ := Bx.q4 Y5.out; clear b5)
            go_ret
            exact ⟨rfl, B5.out⟩
    · rw [show prB p.co pc i = true from by unfold prB; rw [if_neg h19, if_neg h20]]
      have z19 : (nm.toList == [102, 105, 114, 115, 116]) = false := by rw [← hnm]; exact nm_no i.1 19 _ rfl h19
      have z20 : (nm.toList == [110, 101, 120, 116]) = false := by rw [← hnm]; exact nm_no i.1 20 _ rfl h20
      clear hnm h19 h20 hA
      go_enter Tryd.func25, Tryd.ntmps25
      go_upto_region 1 with fail
      rw [← WR.out]
      generalize World.alloc w _ = w1 at *
      have x0 := X1.out.cell 0 _ rfl
      go_wp2_with (go_at_call 21; (with_reducible refine Calls.mono KN.out ?_); rintro e w2 ⟨rfl, b2⟩; have B2 := hid (nxB B1.out b2); have X2 := hid (Bx.next X1.out b2); obtain ⟨_, x1, x2, x3⟩ := Bx.q4 X2.out; clear b2)
      clear x0 X1 KN
      go_ret
      exact ⟨rfl, B2.out⟩

end Go.Proofs.YtjkbiglnpoeddaaDoor.Vf
