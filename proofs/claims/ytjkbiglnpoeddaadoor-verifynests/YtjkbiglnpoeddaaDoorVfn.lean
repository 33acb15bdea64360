/- The walks over verify's takes and puts. -/
import Derived.Test.YtjkbiglnpoeddaaDoorVfm
namespace Go.Proofs.YtjkbiglnpoeddaaDoor.Vf
open Go.RowKit
set_option linter.unusedVariables false
set_option linter.unusedSimpArgs false

def aX (w : World) (g p : Nat) (x : ByteArray) : Prop := w.cell? ⟨g, p, none⟩ = some (.string x)
theorem aX_nx : Nx aX := fun _ _ _ _ _ h b => celB b h
def kd1 (k : Int) : ByteArray := strOfNums [k]
/-- What an instruction may take from the top; what it puts. -/
def tkF (p : Pg) (i : Ins) : List ByteArray :=
  if i.1 = 3 then [kd1 (atI p.sl i.2.1)]
  else if i.1 = 22 then [kd1 (atI p.outs i.2.1)]
  else if i.1 = 16 then [kd1 (p.ts.getD i.2.1.toNat (0, 0, [], [])).1]
  else if i.1 = 9 ∨ i.1 = 18 then [kd1 1]
  else if i.1 = 8 then [kd1 i.2.1]
  else if i.1 = 10 ∨ i.1 = 11 ∨ i.1 = 12 ∨ i.1 = 13 ∨ i.1 = 14 then [strOfNums [i.2.1, i.2.1]]
  else if i.1 = 4 ∨ i.1 = 5 ∨ i.1 = 6 ∨ i.1 = 7 then opdT (opN i.1) i.2.1 19
  else [⟨#[]⟩]
def puF (p : Pg) (i : Ins) : ByteArray :=
  if i.1 = 0 then kd1 (p.cs.getD i.2.1.toNat (0, 0)).1
  else if i.1 = 1 then kd1 (atI p.ins i.2.1)
  else if i.1 = 2 then kd1 (atI p.sl i.2.1)
  else if i.1 = 4 ∨ i.1 = 5 ∨ i.1 = 6 ∨ i.1 = 7 ∨ i.1 = 8 ∨ i.1 = 13 ∨ i.1 = 14 then kd1 i.2.1
  else if i.1 = 9 ∨ i.1 = 10 ∨ i.1 = 11 ∨ i.1 = 12 then kd1 1
  else if i.1 = 15 then kd1 2
  else if i.1 = 16 then kd1 (p.ts.getD i.2.1.toNat (0, 0, [], [])).2.1
  else ⟨#[]⟩
structure TkP (w w' : World) (e : Ending) (xs : List ByteArray) : Prop where
  ex : ∃ a c, e = .returned (.slice a xs.length c) ∧ Vw aX 1 w' a xs.length xs
  bl : Below w.heap.size w w'
theorem vx_new (w : World) (T : TypeId) (x : ByteArray) : Vw aX 1 (w.alloc (.cells #[.string x] T)) (some ⟨w.heap.size, 0, none⟩) 1 [x] :=
  ⟨rfl, w.heap.size, 0, fun _ => rfl, fun i y h => by
    obtain rfl : i = 0 := by
      have := (List.getElem?_eq_some_iff.1 h).1
      simp at this
      exact this
    simp at h
    subst h
    show World.cell? _ _ = _
    exact cells_new w [.string x] T 0 _ rfl⟩
/-- Those that are asked for here. -/
def Rst (op : Int) : Prop := op = 9 ∨ op = 17 ∨ op = 19 ∨ op = 20 ∨ op = 23
theorem one_kind (w : World) (k : Int) (hk : 0 ≤ k ∧ k < 256) : Calls Tryd.prog 51 #[.slice (some ⟨w.heap.size, 0, none⟩) 1 1] (w.alloc (.cells #[.int .i64 k] 38)) fun e w' => e = .returned (.string (kd1 k)) ∧ Below (w.alloc (.cells #[.int .i64 k] 38)).heap.size (w.alloc (.cells #[.int .i64 k] 38)) w' :=
  kinds_any (cap := 1) (ks := [k]) (vw_new w 38 [k] (by simp)) (fun x h => by simp at h; subst h; exact hk) (by simp)
set_option maxRecDepth 100000 in
set_option maxHeartbeats 8000000 in
theorem takes_9 {w : World} {c : Nat} (hT : RT w) (a b d : Int) : Calls Tryd.prog 31 #[.pointer (some ⟨c, 0, none⟩), .agg #[.int .i64 9, .int .i64 a, .int .i64 b, .int .i64 d]] w fun e w' => TkP w w' e [kd1 1] := by
  have X1 := hid (Bx.new w #[.int .i64 9, .int .i64 a, .int .i64 b, .int .i64 d] 37 (by decide))
  have B1 := hid (allocB w (.cells #[.int .i64 9, .int .i64 a, .int .i64 b, .int .i64 d] 37))
  have KN := hid (code_Name_any 9 _ (hT.next B1.out))
  have EN := hid (show opN 9 = ⟨#[110, 111, 116]⟩ from rfl)
  rw [EN.out] at KN
  obtain ⟨q, hq⟩ : ∃ q, q = w.heap.size := ⟨_, rfl⟩
  have WR := hid hq
  rw [← hq] at X1
  clear hT EN hq
  go_enter Tryd.func31, Tryd.ntmps31
  go_upto_region 1 with fail
  rw [← WR.out]
  generalize World.alloc w _ = w1 at *
  obtain ⟨x0, x1, x2, x3⟩ := Bx.q4 X1.out
  go_wp2_with (first | (go_at_call 21; (with_reducible refine Calls.mono KN.out ?_); rintro e w2 ⟨rfl, b2⟩; have B2 := hid (nxB B1.out b2); have KK := hid (one_kind w2 1 (by decide)); have A3 := hid (nxB B2.out (allocB w2 (.cells #[.int .i64 1] 38))); have VE := hid (vx_new w2 9 ⟨#[]⟩); have AE := hid (nxB B2.out (allocB w2 (.cells #[.string ⟨#[]⟩] 9))); clear b2) | (go_at_call 51; (with_reducible refine Calls.mono KK.out ?_); rintro e w3 ⟨rfl, b3⟩; have B3 := hid (nxB A3.out b3); have V3 := hid (vx_new w3 9 (kd1 1)); have A4 := hid (nxB B3.out (allocB w3 (.cells #[.string (kd1 1)] 9))); clear b3))
  go_ret
  exact ⟨⟨_, _, rfl, V3.out⟩, A4.out⟩
set_option maxRecDepth 100000 in
set_option maxHeartbeats 8000000 in
theorem puts_9 {w : World} {c : Nat} (hT : RT w) (a b d : Int) : Calls Tryd.prog 33 #[.pointer (some ⟨c, 0, none⟩), .agg #[.int .i64 9, .int .i64 a, .int .i64 b, .int .i64 d]] w fun e w' => e = .returned (.string (kd1 1)) ∧ Below w.heap.size w w' := by
  have X1 := hid (Bx.new w #[.int .i64 9, .int .i64 a, .int .i64 b, .int .i64 d] 37 (by decide))
  have B1 := hid (allocB w (.cells #[.int .i64 9, .int .i64 a, .int .i64 b, .int .i64 d] 37))
  have KN := hid (code_Name_any 9 _ (hT.next B1.out))
  have EN := hid (show opN 9 = ⟨#[110, 111, 116]⟩ from rfl)
  rw [EN.out] at KN
  obtain ⟨q, hq⟩ : ∃ q, q = w.heap.size := ⟨_, rfl⟩
  have WR := hid hq
  rw [← hq] at X1
  clear hT EN hq
  go_enter Tryd.func33, Tryd.ntmps33
  go_upto_region 1 with fail
  rw [← WR.out]
  generalize World.alloc w _ = w1 at *
  obtain ⟨x0, x1, x2, x3⟩ := Bx.q4 X1.out
  go_wp2_with (first | (go_at_call 21; (with_reducible refine Calls.mono KN.out ?_); rintro e w2 ⟨rfl, b2⟩; have B2 := hid (nxB B1.out b2); have KK := hid (one_kind w2 1 (by decide)); have A3 := hid (nxB B2.out (allocB w2 (.cells #[.int .i64 1] 38))); clear b2) | (go_at_call 51; (with_reducible refine Calls.mono KK.out ?_); rintro e w3 ⟨rfl, b3⟩; have B3 := hid (nxB A3.out b3); clear b3))
  go_ret
  exact ⟨rfl, B3.out⟩
set_option maxRecDepth 100000 in
set_option maxHeartbeats 8000000 in
theorem takes_17 {w : World} {c : Nat} (hT : RT w) (a b d : Int) : Calls Tryd.prog 31 #[.pointer (some ⟨c, 0, none⟩), .agg #[.int .i64 17, .int .i64 a, .int .i64 b, .int .i64 d]] w fun e w' => TkP w w' e [⟨#[]⟩] := by
  have X1 := hid (Bx.new w #[.int .i64 17, .int .i64 a, .int .i64 b, .int .i64 d] 37 (by decide))
  have B1 := hid (allocB w (.cells #[.int .i64 17, .int .i64 a, .int .i64 b, .int .i64 d] 37))
  have KN := hid (code_Name_any 17 _ (hT.next B1.out))
  have EN := hid (show opN 17 = ⟨#[106, 117, 109, 112]⟩ from rfl)
  rw [EN.out] at KN
  obtain ⟨q, hq⟩ : ∃ q, q = w.heap.size := ⟨_, rfl⟩
  have WR := hid hq
  rw [← hq] at X1
  clear hT EN hq
  go_enter Tryd.func31, Tryd.ntmps31
  go_upto_region 1 with fail
  rw [← WR.out]
  generalize World.alloc w _ = w1 at *
  obtain ⟨x0, x1, x2, x3⟩ := Bx.q4 X1.out
  go_wp2_with (go_at_call 21; (with_reducible refine Calls.mono KN.out ?_); rintro e w2 ⟨rfl, b2⟩; have B2 := hid (nxB B1.out b2); have KK := hid (one_kind w2 1 (by decide)); have A3 := hid (nxB B2.out (allocB w2 (.cells #[.int .i64 1] 38))); have VE := hid (vx_new w2 9 ⟨#[]⟩); have AE := hid (nxB B2.out (allocB w2 (.cells #[.string ⟨#[]⟩] 9))); clear b2)
  go_ret
  exact ⟨⟨_, _, rfl, VE.out⟩, AE.out⟩
set_option maxRecDepth 100000 in
set_option maxHeartbeats 8000000 in
theorem puts_17 {w : World} {c : Nat} (hT : RT w) (a b d : Int) : Calls Tryd.prog 33 #[.pointer (some ⟨c, 0, none⟩), .agg #[.int .i64 17, .int .i64 a, .int .i64 b, .int .i64 d]] w fun e w' => e = .returned (.string (⟨#[]⟩)) ∧ Below w.heap.size w w' := by
  have X1 := hid (Bx.new w #[.int .i64 17, .int .i64 a, .int .i64 b, .int .i64 d] 37 (by decide))
  have B1 := hid (allocB w (.cells #[.int .i64 17, .int .i64 a, .int .i64 b, .int .i64 d] 37))
  have KN := hid (code_Name_any 17 _ (hT.next B1.out))
  have EN := hid (show opN 17 = ⟨#[106, 117, 109, 112]⟩ from rfl)
  rw [EN.out] at KN
  obtain ⟨q, hq⟩ : ∃ q, q = w.heap.size := ⟨_, rfl⟩
  have WR := hid hq
  rw [← hq] at X1
  clear hT EN hq
  go_enter Tryd.func33, Tryd.ntmps33
  go_upto_region 1 with fail
  rw [← WR.out]
  generalize World.alloc w _ = w1 at *
  obtain ⟨x0, x1, x2, x3⟩ := Bx.q4 X1.out
  go_wp2_with (go_at_call 21; (with_reducible refine Calls.mono KN.out ?_); rintro e w2 ⟨rfl, b2⟩; have B2 := hid (nxB B1.out b2); have KK := hid (one_kind w2 1 (by decide)); have A3 := hid (nxB B2.out (allocB w2 (.cells #[.int .i64 1] 38))); clear b2)
  go_ret
  exact ⟨rfl, B2.out⟩
set_option maxRecDepth 100000 in
set_option maxHeartbeats 8000000 in
theorem takes_19 {w : World} {c : Nat} (hT : RT w) (a b d : Int) : Calls Tryd.prog 31 #[.pointer (some ⟨c, 0, none⟩), .agg #[.int .i64 19, .int .i64 a, .int .i64 b, .int .i64 d]] w fun e w' => TkP w w' e [⟨#[]⟩] := by
  have X1 := hid (Bx.new w #[.int .i64 19, .int .i64 a, .int .i64 b, .int .i64 d] 37 (by decide))
  have B1 := hid (allocB w (.cells #[.int .i64 19, .int .i64 a, .int .i64 b, .int .i64 d] 37))
  have KN := hid (code_Name_any 19 _ (hT.next B1.out))
  have EN := hid (show opN 19 = ⟨#[102, 105, 114, 115, 116]⟩ from rfl)
  rw [EN.out] at KN
  obtain ⟨q, hq⟩ : ∃ q, q = w.heap.size := ⟨_, rfl⟩
  have WR := hid hq
  rw [← hq] at X1
  clear hT EN hq
  go_enter Tryd.func31, Tryd.ntmps31
  go_upto_region 1 with fail
  rw [← WR.out]
  generalize World.alloc w _ = w1 at *
  obtain ⟨x0, x1, x2, x3⟩ := Bx.q4 X1.out
  go_wp2_with (go_at_call 21; (with_reducible refine Calls.mono KN.out ?_); rintro e w2 ⟨rfl, b2⟩; have B2 := hid (nxB B1.out b2); have KK := hid (one_kind w2 1 (by decide)); have A3 := hid (nxB B2.out (allocB w2 (.cells #[.int .i64 1] 38))); have VE := hid (vx_new w2 9 ⟨#[]⟩); have AE := hid (nxB B2.out (allocB w2 (.cells #[.string ⟨#[]⟩] 9))); clear b2)
  go_ret
  exact ⟨⟨_, _, rfl, VE.out⟩, AE.out⟩
set_option maxRecDepth 100000 in
set_option maxHeartbeats 8000000 in
theorem puts_19 {w : World} {c : Nat} (hT : RT w) (a b d : Int) : Calls Tryd.prog 33 #[.pointer (some ⟨c, 0, none⟩), .agg #[.int .i64 19, .int .i64 a, .int .i64 b, .int .i64 d]] w fun e w' => e = .returned (.string (⟨#[]⟩)) ∧ Below w.heap.size w w' := by
  have X1 := hid (Bx.new w #[.int .i64 19, .int .i64 a, .int .i64 b, .int .i64 d] 37 (by decide))
  have B1 := hid (allocB w (.cells #[.int .i64 19, .int .i64 a, .int .i64 b, .int .i64 d] 37))
  have KN := hid (code_Name_any 19 _ (hT.next B1.out))
  have EN := hid (show opN 19 = ⟨#[102, 105, 114, 115, 116]⟩ from rfl)
  rw [EN.out] at KN
  obtain ⟨q, hq⟩ : ∃ q, q = w.heap.size := ⟨_, rfl⟩
  have WR := hid hq
  rw [← hq] at X1
  clear hT EN hq
  go_enter Tryd.func33, Tryd.ntmps33
  go_upto_region 1 with fail
  rw [← WR.out]
  generalize World.alloc w _ = w1 at *
  obtain ⟨x0, x1, x2, x3⟩ := Bx.q4 X1.out
  go_wp2_with (go_at_call 21; (with_reducible refine Calls.mono KN.out ?_); rintro e w2 ⟨rfl, b2⟩; have B2 := hid (nxB B1.out b2); have KK := hid (one_kind w2 1 (by decide)); have A3 := hid (nxB B2.out (allocB w2 (.cells #[.int .i64 1] 38))); clear b2)
  go_ret
  exact ⟨rfl, B2.out⟩
set_option maxRecDepth 100000 in
set_option maxHeartbeats 8000000 in
theorem takes_20 {w : World} {c : Nat} (hT : RT w) (a b d : Int) : Calls Tryd.prog 31 #[.pointer (some ⟨c, 0, none⟩), .agg #[.int .i64 20, .int .i64 a, .int .i64 b, .int .i64 d]] w fun e w' => TkP w w' e [⟨#[]⟩] := by
  have X1 := hid (Bx.new w #[.int .i64 20, .int .i64 a, .int .i64 b, .int .i64 d] 37 (by decide))
  have B1 := hid (allocB w (.cells #[.int .i64 20, .int .i64 a, .int .i64 b, .int .i64 d] 37))
  have KN := hid (code_Name_any 20 _ (hT.next B1.out))
  have EN := hid (show opN 20 = ⟨#[110, 101, 120, 116]⟩ from rfl)
  rw [EN.out] at KN
  obtain ⟨q, hq⟩ : ∃ q, q = w.heap.size := ⟨_, rfl⟩
  have WR := hid hq
  rw [← hq] at X1
  clear hT EN hq
  go_enter Tryd.func31, Tryd.ntmps31
  go_upto_region 1 with fail
  rw [← WR.out]
  generalize World.alloc w _ = w1 at *
  obtain ⟨x0, x1, x2, x3⟩ := Bx.q4 X1.out
  go_wp2_with (go_at_call 21; (with_reducible refine Calls.mono KN.out ?_); rintro e w2 ⟨rfl, b2⟩; have B2 := hid (nxB B1.out b2); have KK := hid (one_kind w2 1 (by decide)); have A3 := hid (nxB B2.out (allocB w2 (.cells #[.int .i64 1] 38))); have VE := hid (vx_new w2 9 ⟨#[]⟩); have AE := hid (nxB B2.out (allocB w2 (.cells #[.string ⟨#[]⟩] 9))); clear b2)
  go_ret
  exact ⟨⟨_, _, rfl, VE.out⟩, AE.out⟩
set_option maxRecDepth 100000 in
set_option maxHeartbeats 8000000 in
theorem puts_20 {w : World} {c : Nat} (hT : RT w) (a b d : Int) : Calls Tryd.prog 33 #[.pointer (some ⟨c, 0, none⟩), .agg #[.int .i64 20, .int .i64 a, .int .i64 b, .int .i64 d]] w fun e w' => e = .returned (.string (⟨#[]⟩)) ∧ Below w.heap.size w w' := by
  have X1 := hid (Bx.new w #[.int .i64 20, .int .i64 a, .int .i64 b, .int .i64 d] 37 (by decide))
  have B1 := hid (allocB w (.cells #[.int .i64 20, .int .i64 a, .int .i64 b, .int .i64 d] 37))
  have KN := hid (code_Name_any 20 _ (hT.next B1.out))
  have EN := hid (show opN 20 = ⟨#[110, 101, 120, 116]⟩ from rfl)
  rw [EN.out] at KN
  obtain ⟨q, hq⟩ : ∃ q, q = w.heap.size := ⟨_, rfl⟩
  have WR := hid hq
  rw [← hq] at X1
  clear hT EN hq
  go_enter Tryd.func33, Tryd.ntmps33
  go_upto_region 1 with fail
  rw [← WR.out]
  generalize World.alloc w _ = w1 at *
  obtain ⟨x0, x1, x2, x3⟩ := Bx.q4 X1.out
  go_wp2_with (go_at_call 21; (with_reducible refine Calls.mono KN.out ?_); rintro e w2 ⟨rfl, b2⟩; have B2 := hid (nxB B1.out b2); have KK := hid (one_kind w2 1 (by decide)); have A3 := hid (nxB B2.out (allocB w2 (.cells #[.int .i64 1] 38))); clear b2)
  go_ret
  exact ⟨rfl, B2.out⟩
set_option maxRecDepth 100000 in
set_option maxHeartbeats 8000000 in
theorem takes_23 {w : World} {c : Nat} (hT : RT w) (a b d : Int) : Calls Tryd.prog 31 #[.pointer (some ⟨c, 0, none⟩), .agg #[.int .i64 23, .int .i64 a, .int .i64 b, .int .i64 d]] w fun e w' => TkP w w' e [⟨#[]⟩] := by
  have X1 := hid (Bx.new w #[.int .i64 23, .int .i64 a, .int .i64 b, .int .i64 d] 37 (by decide))
  have B1 := hid (allocB w (.cells #[.int .i64 23, .int .i64 a, .int .i64 b, .int .i64 d] 37))
  have KN := hid (code_Name_any 23 _ (hT.next B1.out))
  have EN := hid (show opN 23 = ⟨#[104, 97, 108, 116]⟩ from rfl)
  rw [EN.out] at KN
  obtain ⟨q, hq⟩ : ∃ q, q = w.heap.size := ⟨_, rfl⟩
  have WR := hid hq
  rw [← hq] at X1
  clear hT EN hq
  go_enter Tryd.func31, Tryd.ntmps31
  go_upto_region 1 with fail
  rw [← WR.out]
  generalize World.alloc w _ = w1 at *
  obtain ⟨x0, x1, x2, x3⟩ := Bx.q4 X1.out
  go_wp2_with (go_at_call 21; (with_reducible refine Calls.mono KN.out ?_); rintro e w2 ⟨rfl, b2⟩; have B2 := hid (nxB B1.out b2); have KK := hid (one_kind w2 1 (by decide)); have A3 := hid (nxB B2.out (allocB w2 (.cells #[.int .i64 1] 38))); have VE := hid (vx_new w2 9 ⟨#[]⟩); have AE := hid (nxB B2.out (allocB w2 (.cells #[.string ⟨#[]⟩] 9))); clear b2)
  go_ret
  exact ⟨⟨_, _, rfl, VE.out⟩, AE.out⟩
set_option maxRecDepth 100000 in
set_option maxHeartbeats 8000000 in
theorem puts_23 {w : World} {c : Nat} (hT : RT w) (a b d : Int) : Calls Tryd.prog 33 #[.pointer (some ⟨c, 0, none⟩), .agg #[.int .i64 23, .int .i64 a, .int .i64 b, .int .i64 d]] w fun e w' => e = .returned (.string (⟨#[]⟩)) ∧ Below w.heap.size w w' := by
  have X1 := hid (Bx.new w #[.int .i64 23, .int .i64 a, .int .i64 b, .int .i64 d] 37 (by decide))
  have B1 := hid (allocB w (.cells #[.int .i64 23, .int .i64 a, .int .i64 b, .int .i64 d] 37))
  have KN := hid (code_Name_any 23 _ (hT.next B1.out))
  have EN := hid (show opN 23 = ⟨#[104, 97, 108, 116]⟩ from rfl)
  rw [EN.out] at KN
  obtain ⟨q, hq⟩ : ∃ q, q = w.heap.size := ⟨_, rfl⟩
  have WR := hid hq
  rw [← hq] at X1
  clear hT EN hq
  go_enter Tryd.func33, Tryd.ntmps33
  go_upto_region 1 with fail
  rw [← WR.out]
  generalize World.alloc w _ = w1 at *
  obtain ⟨x0, x1, x2, x3⟩ := Bx.q4 X1.out
  go_wp2_with (go_at_call 21; (with_reducible refine Calls.mono KN.out ?_); rintro e w2 ⟨rfl, b2⟩; have B2 := hid (nxB B1.out b2); have KK := hid (one_kind w2 1 (by decide)); have A3 := hid (nxB B2.out (allocB w2 (.cells #[.int .i64 1] 38))); clear b2)
  go_ret
  exact ⟨rfl, B2.out⟩
theorem takes_any {w : World} {c : Nat} (hT : RT w) (p : Pg) (i : Ins) (hR : Rst i.1) : Calls Tryd.prog 31 #[.pointer (some ⟨c, 0, none⟩), .agg #[.int .i64 i.1, .int .i64 i.2.1, .int .i64 i.2.2.1, .int .i64 i.2.2.2]] w fun e w' => TkP w w' e (tkF p i) := by
  obtain ⟨op, a, b, d⟩ := i
  rcases hR with h | h | h | h | h <;> (dsimp only at h; subst h)
  · exact takes_9 hT a b d
  · exact takes_17 hT a b d
  · exact takes_19 hT a b d
  · exact takes_20 hT a b d
  · exact takes_23 hT a b d
theorem puts_any {w : World} {c : Nat} (hT : RT w) (p : Pg) (i : Ins) (hR : Rst i.1) : Calls Tryd.prog 33 #[.pointer (some ⟨c, 0, none⟩), .agg #[.int .i64 i.1, .int .i64 i.2.1, .int .i64 i.2.2.1, .int .i64 i.2.2.2]] w fun e w' => e = .returned (.string (puF p i)) ∧ Below w.heap.size w w' := by
  obtain ⟨op, a, b, d⟩ := i
  rcases hR with h | h | h | h | h <;> (dsimp only at h; subst h)
  · exact puts_9 hT a b d
  · exact puts_17 hT a b d
  · exact puts_19 hT a b d
  · exact puts_20 hT a b d
  · exact puts_23 hT a b d

end Go.Proofs.YtjkbiglnpoeddaaDoor.Vf
