/- The walks over verify's onward and kinds, and over CutSuffix. -/
import Derived.Test.YtjkbiglnpoeddaaDoorVfi
namespace Go.Proofs.YtjkbiglnpoeddaaDoor.Vf
open Go.RowKit
set_option linter.unusedVariables false
set_option linter.unusedSimpArgs false

def aZ (w : World) (g p : Nat) (x : Int) : Prop := w.cell? ⟨g, p, none⟩ = some (.int .i64 x)
theorem aZ_nx : Nx aZ := fun _ _ _ _ _ h b => celB b h
/-- A slice of numbers that was just built. -/
theorem vw_new (w : World) (T : TypeId) (xs : List Int) (hx : 0 < xs.length) : Vw aZ 1 (w.alloc (.cells (xs.map (Value.int .i64)).toArray T)) (some ⟨w.heap.size, 0, none⟩) xs.length xs :=
  ⟨rfl, w.heap.size, 0, fun _ => rfl, fun i x h => by
    show World.cell? _ _ = _
    rw [Nat.zero_add, Nat.mul_one]
    exact cells_new w _ T i _ (by rw [List.getElem?_map, h]; rfl)⟩
/-- Where it may go on from an instruction. -/
def onwF (pc : Nat) (i : Ins) : List Int := if i.1 = 23 then [] else if i.1 = 17 then [i.2.1] else if i.1 = 18 then [(pc : Int) + 1, i.2.1] else if i.1 = 19 ∨ i.1 = 20 then [(pc : Int) + 1, i.2.2.2] else [(pc : Int) + 1]
structure OwP (w w' : World) (e : Ending) (xs : List Int) : Prop where
  ex : ∃ a c, e = .returned (.slice a xs.length c) ∧ Vw aZ 1 w' a xs.length xs ∧ ∀ x, a = some x → w.heap.size ≤ x.block
  bl : Below w.heap.size w w'
set_option maxRecDepth 100000 in
set_option maxHeartbeats 8000000 in
theorem onward_any {w : World} (hT : RT w) (pc : Nat) (hpc : pc ≤ 1000000) (i : Ins) : Calls Tryd.prog 50 #[.int .i64 (pc : Nat), .agg #[.int .i64 i.1, .int .i64 i.2.1, .int .i64 i.2.2.1, .int .i64 i.2.2.2]] w fun e w' => OwP w w' e (onwF pc i) := by
  have X1 := hid (Bx.new w #[.int .i64 i.1, .int .i64 i.2.1, .int .i64 i.2.2.1, .int .i64 i.2.2.2] 37 (by decide))
  have B1 := hid (allocB w (.cells #[.int .i64 i.1, .int .i64 i.2.1, .int .i64 i.2.2.1, .int .i64 i.2.2.2] 37))
  obtain ⟨q, hq⟩ : ∃ q, q = w.heap.size := ⟨_, rfl⟩
  have WR := hid hq
  rw [← hq] at X1
  clear hq
  have KN := hid (code_Name_any i.1 _ (hT.next B1.out))
  obtain ⟨nm, hnm⟩ : ∃ nm, opN i.1 = nm := ⟨_, rfl⟩
  rw [hnm] at KN
  have pb : (pc : Int) ≤ 1000000 := by omega
  clear hT
  by_cases h23 : i.1 = 23
  · rw [show onwF pc i = [] from by unfold onwF; rw [if_pos h23]]
    have z23 : (nm.toList == [104, 97, 108, 116]) = true := by rw [← hnm]; exact nm_yes i.1 23 _ rfl h23
    clear hnm h23
    go_enter Tryd.func50, Tryd.ntmps50
    go_upto_region 1 with fail
    rw [← WR.out]
    generalize World.alloc w _ = w1 at *
    obtain ⟨x0, x1, x2, x3⟩ := Bx.q4 X1.out
    go_upto_region 2 with (go_at_call 21; (with_reducible refine Calls.mono KN.out ?_); rintro e w2 ⟨rfl, b2⟩; have B2 := hid (nxB B1.out b2); have X2 := hid (Bx.next X1.out b2); clear b2 x0 x1 x2 x3; obtain ⟨x0, x1, x2, x3⟩ := Bx.q4 X2.out)
    clear X1 KN
    go_wp2_with fail
    go_returns
    exact ⟨⟨none, 0, rfl, Vw.empty _ _ _, fun x e => by cases e⟩, B2.out⟩
  · by_cases h17 : i.1 = 17
    · rw [show onwF pc i = [i.2.1] from by unfold onwF; rw [if_neg h23, if_pos h17]]
      have z17 : (nm.toList == [106, 117, 109, 112]) = true := by rw [← hnm]; exact nm_yes i.1 17 _ rfl h17
      have z23 : (nm.toList == [104, 97, 108, 116]) = false := by rw [← hnm]; exact nm_no i.1 23 _ rfl h23
      clear hnm h23 h17
      go_enter Tryd.func50, Tryd.ntmps50
      go_upto_region 1 with fail
      rw [← WR.out]
      generalize World.alloc w _ = w1 at *
      obtain ⟨x0, x1, x2, x3⟩ := Bx.q4 X1.out
      go_upto_region 2 with (go_at_call 21; (with_reducible refine Calls.mono KN.out ?_); rintro e w2 ⟨rfl, b2⟩; have B2 := hid (nxB B1.out b2); have X2 := hid (Bx.next X1.out b2); clear b2 x0 x1 x2 x3; obtain ⟨x0, x1, x2, x3⟩ := Bx.q4 X2.out)
      clear X1 KN
      have VN := hid (vw_new w2 3 [i.2.1] (by simp))
      go_wp2_with fail
      go_returns
      exact ⟨⟨_, _, rfl, VN.out, fun x e => by injection e with e; subst e; exact B2.out.size⟩, nxB B2.out (allocB w2 _)⟩
    · by_cases h18 : i.1 = 18
      · rw [show onwF pc i = [(pc : Int) + 1, i.2.1] from by unfold onwF; rw [if_neg h23, if_neg h17, if_pos h18]]
        have z18 : (nm.toList == [117, 110, 108, 101, 115, 115]) = true := by rw [← hnm]; exact nm_yes i.1 18 _ rfl h18
        have z23 : (nm.toList == [104, 97, 108, 116]) = false := by rw [← hnm]; exact nm_no i.1 23 _ rfl h23
        have z17 : (nm.toList == [106, 117, 109, 112]) = false := by rw [← hnm]; exact nm_no i.1 17 _ rfl h17
        clear hnm h23 h17 h18
        go_enter Tryd.func50, Tryd.ntmps50
        go_upto_region 1 with fail
        rw [← WR.out]
        generalize World.alloc w _ = w1 at *
        obtain ⟨x0, x1, x2, x3⟩ := Bx.q4 X1.out
        go_upto_region 2 with (go_at_call 21; (with_reducible refine Calls.mono KN.out ?_); rintro e w2 ⟨rfl, b2⟩; have B2 := hid (nxB B1.out b2); have X2 := hid (Bx.next X1.out b2); clear b2 x0 x1 x2 x3; obtain ⟨x0, x1, x2, x3⟩ := Bx.q4 X2.out)
        clear X1 KN
        have VN := hid (vw_new w2 3 [(pc : Int) + 1, i.2.1] (by simp))
        go_wp2_with fail
        go_returns
        exact ⟨⟨_, _, rfl, VN.out, fun x e => by injection e with e; subst e; exact B2.out.size⟩, nxB B2.out (allocB w2 _)⟩
      · by_cases h19 : i.1 = 19
        · rw [show onwF pc i = [(pc : Int) + 1, i.2.2.2] from by unfold onwF; rw [if_neg h23, if_neg h17, if_neg h18, if_pos (Or.inl h19)]]
          have z19 : (nm.toList == [102, 105, 114, 115, 116]) = true := by rw [← hnm]; exact nm_yes i.1 19 _ rfl h19
          have z23 : (nm.toList == [104, 97, 108, 116]) = false := by rw [← hnm]; exact nm_no i.1 23 _ rfl h23
          have z17 : (nm.toList == [106, 117, 109, 112]) = false := by rw [← hnm]; exact nm_no i.1 17 _ rfl h17
          have z18 : (nm.toList == [117, 110, 108, 101, 115, 115]) = false := by rw [← hnm]; exact nm_no i.1 18 _ rfl h18
          clear hnm h23 h17 h18 h19
          go_enter Tryd.func50, Tryd.ntmps50
          go_upto_region 1 with fail
          rw [← WR.out]
          generalize World.alloc w _ = w1 at *
          obtain ⟨x0, x1, x2, x3⟩ := Bx.q4 X1.out
          go_upto_region 2 with (go_at_call 21; (with_reducible refine Calls.mono KN.out ?_); rintro e w2 ⟨rfl, b2⟩; have B2 := hid (nxB B1.out b2); have X2 := hid (Bx.next X1.out b2); clear b2 x0 x1 x2 x3; obtain ⟨x0, x1, x2, x3⟩ := Bx.q4 X2.out)
          clear X1 KN
          have VN := hid (vw_new w2 3 [(pc : Int) + 1, i.2.2.2] (by simp))
          go_wp2_with fail
          go_returns
          exact ⟨⟨_, _, rfl, VN.out, fun x e => by injection e with e; subst e; exact B2.out.size⟩, nxB B2.out (allocB w2 _)⟩
        · by_cases h20 : i.1 = 20
          · rw [show onwF pc i = [(pc : Int) + 1, i.2.2.2] from by unfold onwF; rw [if_neg h23, if_neg h17, if_neg h18, if_pos (Or.inr h20)]]
            have z20 : (nm.toList == [110, 101, 120, 116]) = true := by rw [← hnm]; exact nm_yes i.1 20 _ rfl h20
            have z23 : (nm.toList == [104, 97, 108, 116]) = false := by rw [← hnm]; exact nm_no i.1 23 _ rfl h23
            have z17 : (nm.toList == [106, 117, 109, 112]) = false := by rw [← hnm]; exact nm_no i.1 17 _ rfl h17
            have z18 : (nm.toList == [117, 110, 108, 101, 115, 115]) = false := by rw [← hnm]; exact nm_no i.1 18 _ rfl h18
            have z19 : (nm.toList == [102, 105, 114, 115, 116]) = false := by rw [← hnm]; exact nm_no i.1 19 _ rfl h19
            clear hnm h23 h17 h18 h19 h20
            go_enter Tryd.func50, Tryd.ntmps50
            go_upto_region 1 with fail
            rw [← WR.out]
            generalize World.alloc w _ = w1 at *
            obtain ⟨x0, x1, x2, x3⟩ := Bx.q4 X1.out
            go_upto_region 2 with (go_at_call 21; (with_reducible refine Calls.mono KN.out ?_); rintro e w2 ⟨rfl, b2⟩; have B2 := hid (nxB B1.out b2); have X2 := hid (Bx.next X1.out b2); clear b2 x0 x1 x2 x3; obtain ⟨x0, x1, x2, x3⟩ := Bx.q4 X2.out)
            clear X1 KN
            have VN := hid (vw_new w2 3 [(pc : Int) + 1, i.2.2.2] (by simp))
            go_wp2_with fail
            go_returns
            exact ⟨⟨_, _, rfl, VN.out, fun x e => by injection e with e; subst e; exact B2.out.size⟩, nxB B2.out (allocB w2 _)⟩
          · rw [show onwF pc i = [(pc : Int) + 1] from by unfold onwF; rw [if_neg h23, if_neg h17, if_neg h18, if_neg (fun h => h.elim h19 h20)]]
            have z23 : (nm.toList == [104, 97, 108, 116]) = false := by rw [← hnm]; exact nm_no i.1 23 _ rfl h23
            have z17 : (nm.toList == [106, 117, 109, 112]) = false := by rw [← hnm]; exact nm_no i.1 17 _ rfl h17
            have z18 : (nm.toList == [117, 110, 108, 101, 115, 115]) = false := by rw [← hnm]; exact nm_no i.1 18 _ rfl h18
            have z19 : (nm.toList == [102, 105, 114, 115, 116]) = false := by rw [← hnm]; exact nm_no i.1 19 _ rfl h19
            have z20 : (nm.toList == [110, 101, 120, 116]) = false := by rw [← hnm]; exact nm_no i.1 20 _ rfl h20
            clear hnm h23 h17 h18 h19 h20
            go_enter Tryd.func50, Tryd.ntmps50
            go_upto_region 1 with fail
            rw [← WR.out]
            generalize World.alloc w _ = w1 at *
            obtain ⟨x0, x1, x2, x3⟩ := Bx.q4 X1.out
            go_upto_region 2 with (go_at_call 21; (with_reducible refine Calls.mono KN.out ?_); rintro e w2 ⟨rfl, b2⟩; have B2 := hid (nxB B1.out b2); have X2 := hid (Bx.next X1.out b2); clear b2 x0 x1 x2 x3; obtain ⟨x0, x1, x2, x3⟩ := Bx.q4 X2.out)
            clear X1 KN
            have VN := hid (vw_new w2 3 [(pc : Int) + 1] (by simp))
            go_wp2_with fail
            go_returns
            exact ⟨⟨_, _, rfl, VN.out, fun x e => by injection e with e; subst e; exact B2.out.size⟩, nxB B2.out (allocB w2 _)⟩
/-- Does a text end so? -/
def sfB (s t : ByteArray) : Bool := decide (t.size ≤ s.size) && ((s.extract (s.size - t.size) s.size).toList == t.toList)
set_option maxRecDepth 100000 in
set_option maxHeartbeats 8000000 in
theorem HasSuffix_any (s t : ByteArray) (w : World) (hs : s.size ≤ 1000000) (ht : t.size ≤ 1000000) : Calls Tryd.prog 57 #[.string s, .string t] w fun e w' => e = .returned (.bool (sfB s t)) ∧ w = w' := by
  have s1 : (s.size : Int) ≤ 1000000 := by omega
  have t1 : (t.size : Int) ≤ 1000000 := by omega
  by_cases q : t.size ≤ s.size
  · have q1 : (t.size : Int) ≤ s.size := by omega
    unfold sfB
    rw [decide_eq_true q]
    go_enter Tryd.func57, Tryd.ntmps57
    go_wp2_with fail
    go_ret
    exact ⟨rfl, rfl⟩
  · have q1 : ¬ (t.size : Int) ≤ s.size := by omega
    unfold sfB
    rw [decide_eq_false q]
    go_enter Tryd.func57, Tryd.ntmps57
    go_wp2_with fail
    go_ret
    exact ⟨rfl, rfl⟩

end Go.Proofs.YtjkbiglnpoeddaaDoor.Vf
