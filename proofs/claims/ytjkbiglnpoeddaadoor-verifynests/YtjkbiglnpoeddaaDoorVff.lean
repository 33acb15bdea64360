/- The walks over verify's spoils, isAhead. -/
import Derived.Test.YtjkbiglnpoeddaaDoorVfe
namespace Go.Proofs.YtjkbiglnpoeddaaDoor.Vf
open Go.RowKit
set_option linter.unusedVariables false
set_option linter.unusedSimpArgs false

set_option maxRecDepth 100000 in
set_option maxHeartbeats 8000000 in
theorem spoils_any {w : World} (hT : RT w) (i : Ins) (l : Lp) (hl : 0 ≤ l.2.2 ∧ l.2.2 ≤ 1000000) (hb : i.1 = 19 → 0 ≤ i.2.2.1 ∧ i.2.2.1 ≤ 1000000) :
    Calls Tryd.prog 28 #[.agg #[.int .i64 i.1, .int .i64 i.2.1, .int .i64 i.2.2.1, .int .i64 i.2.2.2], .agg #[.int .i64 l.1, .int .i64 l.2.1, .int .i64 l.2.2]] w fun e w' => e = .returned (.bool (spB i l)) ∧ Below w.heap.size w w' := by
  obtain ⟨q, hq⟩ : ∃ q, q = w.heap.size := ⟨_, rfl⟩
  have X1 := hid (Bx.new w #[.int .i64 i.1, .int .i64 i.2.1, .int .i64 i.2.2.1, .int .i64 i.2.2.2] 37 (by decide))
  have B1 := hid (allocB w (.cells #[.int .i64 i.1, .int .i64 i.2.1, .int .i64 i.2.2.1, .int .i64 i.2.2.2] 37))
  have Q1 := hid (show (w.alloc (.cells #[.int .i64 i.1, .int .i64 i.2.1, .int .i64 i.2.2.1, .int .i64 i.2.2.2] 37)).heap.size = q + 1 from by rw [hq]; simp)
  obtain ⟨w1, hw1⟩ : ∃ w1, w1 = w.alloc (.cells #[.int .i64 i.1, .int .i64 i.2.1, .int .i64 i.2.2.1, .int .i64 i.2.2.2] 37) := ⟨_, rfl⟩
  rw [← hw1] at X1 B1 Q1
  have X2 := hid (Bx.new w1 #[.int .i64 l.1, .int .i64 l.2.1, .int .i64 l.2.2] 65 (by decide))
  have B2 := hid (nxB B1.out (allocB w1 (.cells #[.int .i64 l.1, .int .i64 l.2.1, .int .i64 l.2.2] 65)))
  have Y2 := hid (Bx.next X1.out (allocB w1 (.cells #[.int .i64 l.1, .int .i64 l.2.1, .int .i64 l.2.2] 65)))
  rw [Q1.out] at X2
  rw [← hq] at Y2
  have WR := hid hq
  have W1 := hid hw1
  clear X1 B1
  have KN := hid (code_Name_any i.1 _ (hT.next B2.out))
  obtain ⟨nm, hnm⟩ : ∃ nm, opN i.1 = nm := ⟨_, rfl⟩
  rw [hnm] at KN
  clear hq hw1 hT
  by_cases h3 : i.1 = 3
  · rw [show spB i l = hsB l i.2.1 from by unfold spB; rw [if_pos h3]]
    have z3 : (nm.toList == [115, 116, 111, 114, 101]) = true := by rw [← hnm]; exact nm_yes i.1 3 _ rfl h3
    clear h3 hnm
    go_enter Tryd.func28, Tryd.ntmps28
    go_upto_region 1 with fail
    rw [← W1.out, ← WR.out]
    generalize World.alloc w1 _ = w2 at *
    have x0 := Y2.out.cell 0 _ rfl
    go_upto_region 2 with (go_at_call 21; (with_reducible refine Calls.mono KN.out ?_); rintro e w3 ⟨rfl, b3⟩; have B3 := hid (nxB B2.out b3); have X3 := hid (Bx.next X2.out b3); have Y3 := hid (Bx.next Y2.out b3); clear b3)
    clear x0 X2 Y2 KN
    have x1 := Y3.out.cell 1 _ rfl
    have x2 := Y3.out.cell 2 _ rfl
    have l0 := X3.out.cell 0 _ rfl
    have l1 := X3.out.cell 1 _ rfl
    have l2 := X3.out.cell 2 _ rfl
    have KH := hid (has_any w3 l i.2.1 hl)
    go_wp2_with (go_at_call 49; (with_reducible refine Calls.mono KH.out ?_); rintro e w4 ⟨rfl, b4⟩; have B4 := hid (nxB B3.out b4); clear b4)
    go_ret
    exact ⟨rfl, B4.out⟩
  · by_cases h19 : i.1 = 19
    · rw [show spB i l = (hsB l i.2.2.1 || hsB l (i.2.2.1 + 1)) from by unfold spB; rw [if_neg h3, if_pos h19]]
      obtain ⟨b1, b2⟩ := hb h19
      have z19 : (nm.toList == [102, 105, 114, 115, 116]) = true := by rw [← hnm]; exact nm_yes i.1 19 _ rfl h19
      have z3 : (nm.toList == [115, 116, 111, 114, 101]) = false := by rw [← hnm]; exact nm_no i.1 3 _ rfl h3
      clear h3 h19 hnm hb
      cases z : hsB l i.2.2.1 with
      | true =>
        rw [Bool.true_or]
        go_enter Tryd.func28, Tryd.ntmps28
        go_upto_region 1 with fail
        rw [← W1.out, ← WR.out]
        generalize World.alloc w1 _ = w2 at *
        have x0 := Y2.out.cell 0 _ rfl
        go_upto_region 2 with (go_at_call 21; (with_reducible refine Calls.mono KN.out ?_); rintro e w3 ⟨rfl, b3⟩; have B3 := hid (nxB B2.out b3); have X3 := hid (Bx.next X2.out b3); have Y3 := hid (Bx.next Y2.out b3); clear b3)
        clear x0 X2 Y2 KN
        have x1 := Y3.out.cell 1 _ rfl
        have x2 := Y3.out.cell 2 _ rfl
        have l0 := X3.out.cell 0 _ rfl
        have l1 := X3.out.cell 1 _ rfl
        have l2 := X3.out.cell 2 _ rfl
        have KH := hid (has_any w3 l i.2.2.1 hl)
        rw [z] at KH
        go_wp2_with (go_at_call 49; (with_reducible refine Calls.mono KH.out ?_); rintro e w4 ⟨rfl, b4⟩; have B4 := hid (nxB B3.out b4); clear b4)
        go_ret
        exact ⟨rfl, B4.out⟩
      | false =>
        rw [Bool.false_or]
        go_enter Tryd.func28, Tryd.ntmps28
        go_upto_region 1 with fail
        rw [← W1.out, ← WR.out]
        generalize World.alloc w1 _ = w2 at *
        have x0 := Y2.out.cell 0 _ rfl
        go_upto_region 2 with (go_at_call 21; (with_reducible refine Calls.mono KN.out ?_); rintro e w3 ⟨rfl, b3⟩; have B3 := hid (nxB B2.out b3); have X3 := hid (Bx.next X2.out b3); have Y3 := hid (Bx.next Y2.out b3); clear b3)
        clear x0 X2 Y2 KN
        have x1 := Y3.out.cell 1 _ rfl
        have x2 := Y3.out.cell 2 _ rfl
        have l0 := X3.out.cell 0 _ rfl
        have l1 := X3.out.cell 1 _ rfl
        have l2 := X3.out.cell 2 _ rfl
        have KH := hid (has_any w3 l i.2.2.1 hl)
        have KG := hid (fun W => has_any W l (i.2.2.1 + 1) hl)
        rw [z] at KH
        go_wp2_with (first | (go_at_call 49; (with_reducible refine Calls.mono KH.out ?_); rintro e w4 ⟨rfl, b4⟩; have B4 := hid (nxB B3.out b4); have X4 := hid (Bx.next X3.out b4); have Y4 := hid (Bx.next Y3.out b4); have m0 := X4.out.cell 0 _ rfl; have m1 := X4.out.cell 1 _ rfl; have m2 := X4.out.cell 2 _ rfl; have n2 := Y4.out.cell 2 _ rfl; clear b4 KH) | (go_at_call 49; (with_reducible refine Calls.mono (KG.out _) ?_); rintro e w5 ⟨rfl, b5⟩; have B5 := hid (nxB B4.out b5); clear b5))
        go_ret
        exact ⟨rfl, B5.out⟩
    · rw [show spB i l = false from by unfold spB; rw [if_neg h3, if_neg h19]]
      have z3 : (nm.toList == [115, 116, 111, 114, 101]) = false := by rw [← hnm]; exact nm_no i.1 3 _ rfl h3
      have z19 : (nm.toList == [102, 105, 114, 115, 116]) = false := by rw [← hnm]; exact nm_no i.1 19 _ rfl h19
      clear h3 h19 hnm hb
      go_enter Tryd.func28, Tryd.ntmps28
      go_upto_region 1 with fail
      rw [← W1.out, ← WR.out]
      generalize World.alloc w1 _ = w2 at *
      have x0 := Y2.out.cell 0 _ rfl
      go_upto_region 2 with (go_at_call 21; (with_reducible refine Calls.mono KN.out ?_); rintro e w3 ⟨rfl, b3⟩; have B3 := hid (nxB B2.out b3); have X3 := hid (Bx.next X2.out b3); have Y3 := hid (Bx.next Y2.out b3); clear b3)
      clear x0 X2 Y2 KN
      have x1 := Y3.out.cell 1 _ rfl
      have x2 := Y3.out.cell 2 _ rfl
      have l0 := X3.out.cell 0 _ rfl
      have l1 := X3.out.cell 1 _ rfl
      have l2 := X3.out.cell 2 _ rfl
      go_wp2_with fail
      go_ret
      exact ⟨rfl, B3.out⟩
set_option maxRecDepth 100000 in
set_option maxHeartbeats 8000000 in
theorem isAhead_any {w : World} {c : Nat} {s : S7} {p : Pg} {lv : Value} {st sk : Int} (hC : Ck w c s lv st sk) (hP : Pv w s p) (hT : RT w) (hn : s.m6 ≤ 1000000) (pc : Int) (i : Ins) :
    Calls Tryd.prog 24 #[.pointer (some ⟨c, 0, none⟩), .int .i64 pc, .agg #[.int .i64 i.1, .int .i64 i.2.1, .int .i64 i.2.2.1, .int .i64 i.2.2.2]] w fun e w' => e = .returned (.bool (ahB p.co.length pc i)) ∧ Below w.heap.size w w' := by
  have X1 := hid (Bx.new w #[.int .i64 i.1, .int .i64 i.2.1, .int .i64 i.2.2.1, .int .i64 i.2.2.2] 37 (by decide))
  have B1 := hid (allocB w (.cells #[.int .i64 i.1, .int .i64 i.2.1, .int .i64 i.2.2.1, .int .i64 i.2.2.2] 37))
  obtain ⟨q, hq⟩ : ∃ q, q = w.heap.size := ⟨_, rfl⟩
  have WR := hid hq
  rw [← hq] at X1
  clear hq
  have KT := hid (target_any (hT.next B1.out) i)
  have L := hid hP.k6.len
  have C1 := hid (Bx.next hC B1.out)
  unfold ahB
  rw [L.out]
  generalize tgF i = t at *
  obtain ⟨t1, t2⟩ := t
  clear hC hP hT
  cases t2 with
  | false =>
    dsimp only
    rw [show (!false || (decide (pc < t1) && decide (t1 < (s.m6 : Int)))) = true from rfl]
    go_enter Tryd.func24, Tryd.ntmps24
    go_upto_region 1 with fail
    rw [← WR.out]
    generalize World.alloc w _ = w1 at *
    have x0 := X1.out.cell 0 _ rfl
    have x1 := X1.out.cell 1 _ rfl
    have x2 := X1.out.cell 2 _ rfl
    have x3 := X1.out.cell 3 _ rfl
    go_upto_region 2 with (go_at_call 26; (with_reducible refine Calls.mono KT.out ?_); rintro e w2 ⟨rfl, b2⟩; have B2 := hid (nxB B1.out b2); have C2 := hid (Bx.next C1.out b2); clear b2)
    have c6 : w2.cell? ⟨c, 6, none⟩ = some (.slice s.a6 s.m6 s.c6) := C2.out.cell 6 _ rfl
    clear x0 x1 x2 x3 X1 KT C1
    go_wp2_with fail
    go_ret
    exact ⟨rfl, B2.out⟩
  | true =>
    dsimp only
    by_cases q0 : pc < t1
    · by_cases q1 : t1 < (s.m6 : Int)
      · rw [decide_eq_true q0, decide_eq_true q1, show (!true || (true && true)) = true from rfl]
        go_enter Tryd.func24, Tryd.ntmps24
        go_upto_region 1 with fail
        rw [← WR.out]
        generalize World.alloc w _ = w1 at *
        have x0 := X1.out.cell 0 _ rfl
        have x1 := X1.out.cell 1 _ rfl
        have x2 := X1.out.cell 2 _ rfl
        have x3 := X1.out.cell 3 _ rfl
        go_upto_region 2 with (go_at_call 26; (with_reducible refine Calls.mono KT.out ?_); rintro e w2 ⟨rfl, b2⟩; have B2 := hid (nxB B1.out b2); have C2 := hid (Bx.next C1.out b2); clear b2)
        have c6 : w2.cell? ⟨c, 6, none⟩ = some (.slice s.a6 s.m6 s.c6) := C2.out.cell 6 _ rfl
        clear x0 x1 x2 x3 X1 KT C1
        go_wp2_with fail
        go_ret
        exact ⟨rfl, B2.out⟩
      · rw [decide_eq_true q0, decide_eq_false q1, show (!true || (true && false)) = false from rfl]
        have qd : decide (t1 < (s.m6 : Int)) = false := decide_eq_false q1
        clear q1
        go_enter Tryd.func24, Tryd.ntmps24
        go_upto_region 1 with fail
        rw [← WR.out]
        generalize World.alloc w _ = w1 at *
        have x0 := X1.out.cell 0 _ rfl
        have x1 := X1.out.cell 1 _ rfl
        have x2 := X1.out.cell 2 _ rfl
        have x3 := X1.out.cell 3 _ rfl
        go_upto_region 2 with (go_at_call 26; (with_reducible refine Calls.mono KT.out ?_); rintro e w2 ⟨rfl, b2⟩; have B2 := hid (nxB B1.out b2); have C2 := hid (Bx.next C1.out b2); clear b2)
        have c6 : w2.cell? ⟨c, 6, none⟩ = some (.slice s.a6 s.m6 s.c6) := C2.out.cell 6 _ rfl
        clear x0 x1 x2 x3 X1 KT C1
        go_wp2_with fail
        go_ret
        exact ⟨rfl, B2.out⟩
    · rw [decide_eq_false q0, show (!true || (false && decide (t1 < (s.m6 : Int)))) = false from rfl]
      go_enter Tryd.func24, Tryd.ntmps24
      go_upto_region 1 with fail
      rw [← WR.out]
      generalize World.alloc w _ = w1 at *
      have x0 := X1.out.cell 0 _ rfl
      have x1 := X1.out.cell 1 _ rfl
      have x2 := X1.out.cell 2 _ rfl
      have x3 := X1.out.cell 3 _ rfl
      go_upto_region 2 with (go_at_call 26; (with_reducible refine Calls.mono KT.out ?_); rintro e w2 ⟨rfl, b2⟩; have B2 := hid (nxB B1.out b2); have C2 := hid (Bx.next C1.out b2); clear b2)
      have c6 : w2.cell? ⟨c, 6, none⟩ = some (.slice s.a6 s.m6 s.c6) := C2.out.cell 6 _ rfl
      clear x0 x1 x2 x3 X1 KT C1
      go_wp2_with fail
      go_ret
      exact ⟨rfl, B2.out⟩

end Go.Proofs.YtjkbiglnpoeddaaDoor.Vf
