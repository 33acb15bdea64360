/- The walks over verify's target, holds, has, spoils, isAhead, isPaired. -/
import Derived.Test.YtjkbiglnpoeddaaDoorVfd
namespace Go.Proofs.YtjkbiglnpoeddaaDoor.Vf
open Go.RowKit
set_option linter.unusedVariables false
set_option linter.unusedSimpArgs false

theorem nm_yes (op : Int) (k : Nat) (bs : List UInt8) (hb : nmB[k]? = some bs) (h : op = (k : Int)) : ((opN op).toList == bs) = true := by rw [nm_is op k bs hb, decide_eq_true h]
theorem nm_no (op : Int) (k : Nat) (bs : List UInt8) (hb : nmB[k]? = some bs) (h : ¬ op = (k : Int)) : ((opN op).toList == bs) = false := by rw [nm_is op k bs hb, decide_eq_false h]
/-- Where an instruction goes that names a place behind it. -/
def tgF (i : Ins) : Int × Bool := if i.1 = 17 ∨ i.1 = 18 then (i.2.1, true) else if i.1 = 19 then (i.2.2.2, true) else (0, false)
abbrev Lp := Int × Int × Int
def hdB (l : Lp) (pc : Int) : Bool := decide (l.1 < pc) && decide (pc ≤ l.2.1)
def hsB (l : Lp) (x : Int) : Bool := decide (x = l.2.2) || decide (x = l.2.2 + 1)
def spB (i : Ins) (l : Lp) : Bool := if i.1 = 3 then hsB l i.2.1 else if i.1 = 19 then hsB l i.2.2.1 || hsB l (i.2.2.1 + 1) else false
def ahB (n : Nat) (pc : Int) (i : Ins) : Bool := !(tgF i).2 || (decide (pc < (tgF i).1) && decide ((tgF i).1 < (n : Int)))
def hfB (co : List Ins) (pc : Int) (i : Ins) (o : Int) : Bool := match co[(i.2.2.2 - 1).toNat]? with
  | some x => decide (x.1 = o) && decide (x.2.1 = i.2.1) && decide (x.2.2.1 = i.2.2.1) && decide (x.2.2.2 = pc + 1)
  | none => false
def prB (co : List Ins) (pc : Int) (i : Ins) : Bool := if i.1 = 19 then hfB co pc i 20 else if i.1 = 20 then !(decide (i.2.2.2 < 1) || decide (pc < i.2.2.2)) && hfB co pc i 19 else true
set_option maxRecDepth 100000 in
set_option maxHeartbeats 8000000 in
theorem target_any {w : World} (hT : RT w) (i : Ins) : Calls Tryd.prog 26 #[.agg #[.int .i64 i.1, .int .i64 i.2.1, .int .i64 i.2.2.1, .int .i64 i.2.2.2]] w fun e w' => e = .returned (.tuple #[.int .i64 (tgF i).1, .bool (tgF i).2]) ∧ Below w.heap.size w w' := by
  have X1 := hid (Bx.new w #[.int .i64 i.1, .int .i64 i.2.1, .int .i64 i.2.2.1, .int .i64 i.2.2.2] 37 (by decide))
  have B1 := hid (allocB w (.cells #[.int .i64 i.1, .int .i64 i.2.1, .int .i64 i.2.2.1, .int .i64 i.2.2.2] 37))
  obtain ⟨q, hq⟩ : ∃ q, q = w.heap.size := ⟨_, rfl⟩
  have WR := hid hq
  rw [← hq] at X1
  clear hq
  have KN := hid (code_Name_any i.1 _ (hT.next B1.out))
  obtain ⟨nm, hnm⟩ : ∃ nm, opN i.1 = nm := ⟨_, rfl⟩
  rw [hnm] at KN
  by_cases h17 : i.1 = 17
  · rw [show tgF i = (i.2.1, true) from by unfold tgF; rw [if_pos (Or.inl h17)]]
    have z17 : (nm.toList == [106, 117, 109, 112]) = true := by rw [← hnm]; exact nm_yes i.1 17 _ rfl h17
    clear h17
    clear hnm hT
    go_enter Tryd.func26, Tryd.ntmps26
    go_upto_region 1 with fail
    rw [← WR.out]
    generalize World.alloc w _ = w1 at *
    have x0 := X1.out.cell 0 _ rfl
    go_upto_region 2 with (go_at_call 21; (with_reducible refine Calls.mono KN.out ?_); rintro e w2 ⟨rfl, b2⟩; have B2 := hid (nxB B1.out b2); have X2 := hid (Bx.next X1.out b2); clear b2)
    have y1 := X2.out.cell 1 _ rfl
    have y3 := X2.out.cell 3 _ rfl
    clear x0 X1 KN
    go_wp2_with fail
    go_returns
    exact ⟨rfl, B2.out⟩
  · by_cases h18 : i.1 = 18
    · rw [show tgF i = (i.2.1, true) from by unfold tgF; rw [if_pos (Or.inr h18)]]
      have z18 : (nm.toList == [117, 110, 108, 101, 115, 115]) = true := by rw [← hnm]; exact nm_yes i.1 18 _ rfl h18
      have z17 : (nm.toList == [106, 117, 109, 112]) = false := by rw [← hnm]; exact nm_no i.1 17 _ rfl h17
      clear h17 h18
      clear hnm hT
      go_enter Tryd.func26, Tryd.ntmps26
      go_upto_region 1 with fail
      rw [← WR.out]
      generalize World.alloc w _ = w1 at *
      have x0 := X1.out.cell 0 _ rfl
      go_upto_region 2 with (go_at_call 21; (with_reducible refine Calls.mono KN.out ?_); rintro e w2 ⟨rfl, b2⟩; have B2 := hid (nxB B1.out b2); have X2 := hid (Bx.next X1.out b2); clear b2)
      have y1 := X2.out.cell 1 _ rfl
      have y3 := X2.out.cell 3 _ rfl
      clear x0 X1 KN
      go_wp2_with fail
      go_returns
      exact ⟨rfl, B2.out⟩
    · by_cases h19 : i.1 = 19
      · rw [show tgF i = (i.2.2.2, true) from by unfold tgF; rw [if_neg (fun h => h.elim h17 h18), if_pos h19]]
        have z19 : (nm.toList == [102, 105, 114, 115, 116]) = true := by rw [← hnm]; exact nm_yes i.1 19 _ rfl h19
        have z17 : (nm.toList == [106, 117, 109, 112]) = false := by rw [← hnm]; exact nm_no i.1 17 _ rfl h17
        have z18 : (nm.toList == [117, 110, 108, 101, 115, 115]) = false := by rw [← hnm]; exact nm_no i.1 18 _ rfl h18
        clear h17 h18 h19
        clear hnm hT
        go_enter Tryd.func26, Tryd.ntmps26
        go_upto_region 1 with fail
        rw [← WR.out]
        generalize World.alloc w _ = w1 at *
        have x0 := X1.out.cell 0 _ rfl
        go_upto_region 2 with (go_at_call 21; (with_reducible refine Calls.mono KN.out ?_); rintro e w2 ⟨rfl, b2⟩; have B2 := hid (nxB B1.out b2); have X2 := hid (Bx.next X1.out b2); clear b2)
        have y1 := X2.out.cell 1 _ rfl
        have y3 := X2.out.cell 3 _ rfl
        clear x0 X1 KN
        go_wp2_with fail
        go_returns
        exact ⟨rfl, B2.out⟩
      · rw [show tgF i = (0, false) from by unfold tgF; rw [if_neg (fun h => h.elim h17 h18), if_neg h19]]
        have z17 : (nm.toList == [106, 117, 109, 112]) = false := by rw [← hnm]; exact nm_no i.1 17 _ rfl h17
        have z18 : (nm.toList == [117, 110, 108, 101, 115, 115]) = false := by rw [← hnm]; exact nm_no i.1 18 _ rfl h18
        have z19 : (nm.toList == [102, 105, 114, 115, 116]) = false := by rw [← hnm]; exact nm_no i.1 19 _ rfl h19
        clear h17 h18 h19
        clear hnm hT
        go_enter Tryd.func26, Tryd.ntmps26
        go_upto_region 1 with fail
        rw [← WR.out]
        generalize World.alloc w _ = w1 at *
        have x0 := X1.out.cell 0 _ rfl
        go_upto_region 2 with (go_at_call 21; (with_reducible refine Calls.mono KN.out ?_); rintro e w2 ⟨rfl, b2⟩; have B2 := hid (nxB B1.out b2); have X2 := hid (Bx.next X1.out b2); clear b2)
        have y1 := X2.out.cell 1 _ rfl
        have y3 := X2.out.cell 3 _ rfl
        clear x0 X1 KN
        go_wp2_with fail
        go_returns
        exact ⟨rfl, B2.out⟩
set_option maxRecDepth 100000 in
set_option maxHeartbeats 8000000 in
theorem holds_any (w : World) (l : Lp) (pc : Int) : Calls Tryd.prog 27 #[.agg #[.int .i64 l.1, .int .i64 l.2.1, .int .i64 l.2.2], .int .i64 pc] w fun e w' => e = .returned (.bool (hdB l pc)) ∧ Below w.heap.size w w' := by
  have X1 := hid (Bx.new w #[.int .i64 l.1, .int .i64 l.2.1, .int .i64 l.2.2] 65 (by decide))
  have B1 := hid (allocB w (.cells #[.int .i64 l.1, .int .i64 l.2.1, .int .i64 l.2.2] 65))
  obtain ⟨q, hq⟩ : ∃ q, q = w.heap.size := ⟨_, rfl⟩
  have WR := hid hq
  rw [← hq] at X1
  clear hq
  unfold hdB
  by_cases q0 : l.1 < pc
  · rw [decide_eq_true q0]
    by_cases q1 : pc ≤ l.2.1
    · rw [decide_eq_true q1]
      go_enter Tryd.func27, Tryd.ntmps27
      go_upto_region 1 with fail
      rw [← WR.out]
      generalize World.alloc w _ = w1 at *
      have x0 := X1.out.cell 0 _ rfl
      have x1 := X1.out.cell 1 _ rfl
      have x2 := X1.out.cell 2 _ rfl
      go_wp2_with fail
      go_ret
      exact ⟨rfl, B1.out⟩
    · rw [decide_eq_false q1]
      go_enter Tryd.func27, Tryd.ntmps27
      go_upto_region 1 with fail
      rw [← WR.out]
      generalize World.alloc w _ = w1 at *
      have x0 := X1.out.cell 0 _ rfl
      have x1 := X1.out.cell 1 _ rfl
      have x2 := X1.out.cell 2 _ rfl
      go_wp2_with fail
      go_ret
      exact ⟨rfl, B1.out⟩
  · rw [decide_eq_false q0]
    go_enter Tryd.func27, Tryd.ntmps27
    go_upto_region 1 with fail
    rw [← WR.out]
    generalize World.alloc w _ = w1 at *
    have x0 := X1.out.cell 0 _ rfl
    have x1 := X1.out.cell 1 _ rfl
    have x2 := X1.out.cell 2 _ rfl
    go_wp2_with fail
    go_ret
    exact ⟨rfl, B1.out⟩
set_option maxRecDepth 100000 in
set_option maxHeartbeats 8000000 in
theorem has_any (w : World) (l : Lp) (x : Int) (hl : 0 ≤ l.2.2 ∧ l.2.2 ≤ 1000000) : Calls Tryd.prog 49 #[.agg #[.int .i64 l.1, .int .i64 l.2.1, .int .i64 l.2.2], .int .i64 x] w fun e w' => e = .returned (.bool (hsB l x)) ∧ Below w.heap.size w w' := by
  have X1 := hid (Bx.new w #[.int .i64 l.1, .int .i64 l.2.1, .int .i64 l.2.2] 65 (by decide))
  have B1 := hid (allocB w (.cells #[.int .i64 l.1, .int .i64 l.2.1, .int .i64 l.2.2] 65))
  obtain ⟨q, hq⟩ : ∃ q, q = w.heap.size := ⟨_, rfl⟩
  have WR := hid hq
  rw [← hq] at X1
  clear hq
  obtain ⟨l1, l2⟩ := hl
  unfold hsB
  by_cases q0 : x = l.2.2
  · rw [decide_eq_true q0]
    have qb : (x == l.2.2) = true := by simpa using q0
    clear q0
    go_enter Tryd.func49, Tryd.ntmps49
    go_upto_region 1 with fail
    rw [← WR.out]
    generalize World.alloc w _ = w1 at *
    have x0 := X1.out.cell 0 _ rfl
    have x1 := X1.out.cell 1 _ rfl
    have x2 := X1.out.cell 2 _ rfl
    go_wp2_with fail
    go_ret
    exact ⟨rfl, B1.out⟩
  · rw [decide_eq_false q0]
    have qb : (x == l.2.2) = false := by simpa using q0
    by_cases q1 : x = l.2.2 + 1
    · rw [decide_eq_true q1]
      have qc : (x == l.2.2 + 1) = true := by simpa using q1
      clear q0 q1
      go_enter Tryd.func49, Tryd.ntmps49
      go_upto_region 1 with fail
      rw [← WR.out]
      generalize World.alloc w _ = w1 at *
      have x0 := X1.out.cell 0 _ rfl
      have x1 := X1.out.cell 1 _ rfl
      have x2 := X1.out.cell 2 _ rfl
      go_wp2_with fail
      go_ret
      exact ⟨rfl, B1.out⟩
    · rw [decide_eq_false q1]
      have qc : (x == l.2.2 + 1) = false := by simpa using q1
      clear q0 q1
      go_enter Tryd.func49, Tryd.ntmps49
      go_upto_region 1 with fail
      rw [← WR.out]
      generalize World.alloc w _ = w1 at *
      have x0 := X1.out.cell 0 _ rfl
      have x1 := X1.out.cell 1 _ rfl
      have x2 := X1.out.cell 2 _ rfl
      go_wp2_with fail
      go_ret
      exact ⟨rfl, B1.out⟩

end Go.Proofs.YtjkbiglnpoeddaaDoor.Vf
