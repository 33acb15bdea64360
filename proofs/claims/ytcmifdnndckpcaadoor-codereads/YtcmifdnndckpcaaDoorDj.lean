/- The walks over code's readers of one thing: a number, a constant, an instruction. -/
import Derived.Test.YtcmifdnndckpcaaDoorDi
import Derived.Deep.Fields
namespace Go.Proofs.YtcmifdnndckpcaaDoor
open Go.RowKit
set_option linter.unusedVariables false
set_option linter.unusedSimpArgs false

theorem Bx.fz {w : World} {p : Nat} {T : TypeId} {cs : Array Value} (h : Bx w p T cs) (i : Nat) : w.frozen? ⟨p, i, none⟩ = false := by
  simp [World.frozen?, h.at_]
theorem Bx.but {w w' : World} {p r : Nat} {T : TypeId} {cs : Array Value} (h : Bx w r T cs) (g : w.grownBy w' (some p)) (hp : p ≠ r) : Bx w' r T cs :=
  ⟨by rw [g.block r (Array.getElem?_eq_some_iff.1 h.at_).1 (fun e => hp (by injection e with e; exact e.symm))]; exact h.at_, h.ty⟩
theorem Rd.set {w : World} {p q r i : Nat} {bad : Bool} {bs : List Int} (h : Rd w p q bad bs) (v : Value) (h1 : r ≠ p) (h2 : r ≠ q) : Rd (w.setCell ⟨r, i, none⟩ v) p q bad bs := h.grown (grownBy_setCell w r i v) h1 h2
theorem fr_set {w wr : World} {p r i : Nat} (h : w.grownBy wr (some p)) (v : Value) (hr : w.heap.size ≤ r) : w.grownBy (wr.setCell ⟨r, i, none⟩ v) (some p) := fr_row h (grownBy_setCell wr r i v) (fun k e => by injection e with e; omega)
theorem set3 {w : World} {r : Nat} {x0 x1 x2 : Value} (a b c : Value) (h0 : w.cell? ⟨r, 0, none⟩ = some x0) (h1 : w.cell? ⟨r, 1, none⟩ = some x1) (h2 : w.cell? ⟨r, 2, none⟩ = some x2) :
    (((w.setCell ⟨r, 0, none⟩ a).setCell ⟨r, 1, none⟩ b).setCell ⟨r, 2, none⟩ c).cell? ⟨r, 0, none⟩ = some a ∧ (((w.setCell ⟨r, 0, none⟩ a).setCell ⟨r, 1, none⟩ b).setCell ⟨r, 2, none⟩ c).cell? ⟨r, 1, none⟩ = some b ∧ (((w.setCell ⟨r, 0, none⟩ a).setCell ⟨r, 1, none⟩ b).setCell ⟨r, 2, none⟩ c).cell? ⟨r, 2, none⟩ = some c := by
  have n : ∀ (W : World) (i j : Nat) (v : Value), i ≠ j → (W.setCell ⟨r, i, none⟩ v).cell? ⟨r, j, none⟩ = W.cell? ⟨r, j, none⟩ := fun W i j v h => by
    first | exact World.cell?_setCell_other _ _ _ _ (fun e => h (by injection e)) | exact World.cell?_setCell_other _ _ _ _ (fun e => h (by injection e with _ e; exact e.symm))
  refine ⟨?_, ?_, ?_⟩
  · rw [n _ _ _ _ (by decide), n _ _ _ _ (by decide)]; exact World.cell?_setCell_same _ _ _ h0
  · rw [n _ _ _ _ (by decide)]; exact World.cell?_setCell_same _ _ _ ((n _ _ _ _ (by decide)).trans h1)
  · exact World.cell?_setCell_same _ _ _ ((n _ _ _ _ (by decide)).trans ((n _ _ _ _ (by decide)).trans h2))
theorem set4 {w : World} {r : Nat} {x0 x1 x2 x3 : Value} (a b c d : Value) (h0 : w.cell? ⟨r, 0, none⟩ = some x0) (h1 : w.cell? ⟨r, 1, none⟩ = some x1) (h2 : w.cell? ⟨r, 2, none⟩ = some x2) (h3 : w.cell? ⟨r, 3, none⟩ = some x3) :
    ((((w.setCell ⟨r, 0, none⟩ a).setCell ⟨r, 1, none⟩ b).setCell ⟨r, 2, none⟩ c).setCell ⟨r, 3, none⟩ d).cell? ⟨r, 0, none⟩ = some a ∧ ((((w.setCell ⟨r, 0, none⟩ a).setCell ⟨r, 1, none⟩ b).setCell ⟨r, 2, none⟩ c).setCell ⟨r, 3, none⟩ d).cell? ⟨r, 1, none⟩ = some b ∧ ((((w.setCell ⟨r, 0, none⟩ a).setCell ⟨r, 1, none⟩ b).setCell ⟨r, 2, none⟩ c).setCell ⟨r, 3, none⟩ d).cell? ⟨r, 2, none⟩ = some c ∧ ((((w.setCell ⟨r, 0, none⟩ a).setCell ⟨r, 1, none⟩ b).setCell ⟨r, 2, none⟩ c).setCell ⟨r, 3, none⟩ d).cell? ⟨r, 3, none⟩ = some d := by
  have n : ∀ (W : World) (i j : Nat) (v : Value), i ≠ j → (W.setCell ⟨r, i, none⟩ v).cell? ⟨r, j, none⟩ = W.cell? ⟨r, j, none⟩ := fun W i j v h => by
    first | exact World.cell?_setCell_other _ _ _ _ (fun e => h (by injection e)) | exact World.cell?_setCell_other _ _ _ _ (fun e => h (by injection e with _ e; exact e.symm))
  obtain ⟨s0, s1, s2⟩ := set3 a b c h0 h1 h2
  refine ⟨(n _ _ _ _ (by decide)).trans s0, (n _ _ _ _ (by decide)).trans s1, (n _ _ _ _ (by decide)).trans s2, ?_⟩
  exact World.cell?_setCell_same _ _ _ ((n _ _ _ _ (by decide)).trans ((n _ _ _ _ (by decide)).trans ((n _ _ _ _ (by decide)).trans h3)))
/-- What reading one thing answers: the value, and what is left. -/
structure Rp (w w' : World) (p q : Nat) (s : Sr) : Prop where
  rd : Rd w' p q s.2 s.1
  fr : w.grownBy w' (some p)
theorem Rd.lt2 {w : World} {p q : Nat} {bad : Bool} {bs : List Int} (h : Rd w p q bad bs) : p < w.heap.size := h.lt
set_option maxRecDepth 100000 in
set_option maxHeartbeats 8000000 in
theorem rnKind_any {w : World} {p q : Nat} {s : Sr} (h : Rd w p q s.2 s.1) (hn : s.1.length ≤ 20000000) :
    Calls Tryd.prog 53 #[.pointer (some ⟨p, 0, none⟩)] w fun e w' => e = .returned (.int .i64 (cI.rd s).1) ∧ Rp w w' p q (cI.rd s).2 := by
  have K := hid (RI_any p q s.2 s.1 w h hn)
  clear h hn
  go_enter Tryd.func53, Tryd.ntmps53
  go_wp2_with (go_at_call 72; (with_reducible refine Calls.mono K.out ?_); rintro e w1 ⟨rfl, r1, g1⟩)
  go_ret
  exact ⟨rfl, r1, g1⟩
set_option maxRecDepth 100000 in
set_option maxHeartbeats 8000000 in
theorem rnI64_any {w : World} {p q : Nat} {s : Sr} (h : Rd w p q s.2 s.1) (hn : s.1.length ≤ 20000000) :
    Calls Tryd.prog 74 #[.pointer (some ⟨p, 0, none⟩)] w fun e w' => e = .returned (.int .i64 (cI.rd s).1) ∧ Rp w w' p q (cI.rd s).2 := by
  have K := hid (RI_any p q s.2 s.1 w h hn)
  clear h hn
  go_enter Tryd.func74, Tryd.ntmps74
  go_wp2_with (go_at_call 72; (with_reducible refine Calls.mono K.out ?_); rintro e w1 ⟨rfl, r1, g1⟩)
  go_ret
  exact ⟨rfl, r1, g1⟩
set_option maxRecDepth 100000 in
set_option maxHeartbeats 8000000 in
theorem rnInt_any {w : World} {p q : Nat} {s : Sr} (h : Rd w p q s.2 s.1) (hn : s.1.length ≤ 20000000) :
    Calls Tryd.prog 76 #[.pointer (some ⟨p, 0, none⟩)] w fun e w' => e = .returned (.int .i64 (cI.rd s).1) ∧ Rp w w' p q (cI.rd s).2 := by
  have K := hid (RI_any p q s.2 s.1 w h hn)
  clear h hn
  go_enter Tryd.func76, Tryd.ntmps76
  go_wp2_with (go_at_call 72; (with_reducible refine Calls.mono K.out ?_); rintro e w1 ⟨rfl, r1, g1⟩)
  go_ret
  exact ⟨rfl, r1, g1⟩
set_option maxRecDepth 100000 in
set_option maxHeartbeats 8000000 in
theorem code_readConstant_any {w : World} {p q : Nat} {s : Sr} (h : Rd w p q s.2 s.1) (hn : s.1.length ≤ 20000000) (hq : q < w.heap.size) :
    Calls Tryd.prog 49 #[.pointer (some ⟨p, 0, none⟩)] w fun e w' => e = .returned (.agg #[.int .i64 (cC.rd s).1.1, .int .i64 (cC.rd s).1.2, .slice none 0 0]) ∧ Rp w w' p q (cC.rd s).2 := by
  have hp := h.lt
  have R0 := hid (show Rp w (w.alloc (.cells #[.int .i64 0, .int .i64 0, .slice none 0 0] 62)) p q s from ⟨h.below (allocB w _), fr_below ⟨rfl, rfl, rfl, Nat.le_refl _, fun _ _ _ => rfl⟩ (allocB w _)⟩)
  have X0 := hid (Bx.new w #[.int .i64 0, .int .i64 0, .slice none 0 0] 62 (by decide))
  have PR := hid (And.intro hp hq)
  have D0 := hid hn
  obtain ⟨r, hr⟩ : ∃ r, r = w.heap.size := ⟨_, rfl⟩
  have WR := hid hr
  rw [← hr] at X0
  have NE := hid (show r ≠ p ∧ r ≠ q from by omega)
  clear h hn hp hq hr
  go_enter Tryd.func49, Tryd.ntmps49
  go_upto_region 1 with fail
  rw [← WR.out]
  generalize World.alloc w _ = w0 at *
  have K1 := hid (rnKind_any R0.out.rd D0.out)
  have D1 := hid (show (cI.rd s).2.1.length ≤ 20000000 from Nat.le_trans (cI_good.down s) D0.out)
  go_wp2_with fail
  (with_reducible refine Calls.mono K1.out ?_)
  rintro e w1 ⟨rfl, r1⟩
  have T1 := hid (r1)
  have R1 := hid (Rp.mk T1.out.rd (grownBy_trans R0.out.fr T1.out.fr))
  have X1 := hid (X0.out.but T1.out.fr NE.out.1.symm)
  clear r1 K1
  have K2 := hid (show Calls Tryd.prog 72 _ _ (fun e w' => e = .returned (.int .i64 (cI.rd (cI.rd s).2).1) ∧ Rd w' p q (cI.rd (cI.rd s).2).2.2 (cI.rd (cI.rd s).2).2.1 ∧ World.grownBy _ w' (some p)) from RI_any p q (cI.rd s).2.2 (cI.rd s).2.1 w1 R1.out.rd D1.out)
  have D2 := hid (show (cI.rd (cI.rd s).2).2.1.length ≤ 20000000 from Nat.le_trans (cI_good.down (cI.rd s).2) D1.out)
  go_wp2_with fail
  (with_reducible refine Calls.mono K2.out ?_)
  rintro e w2 ⟨rfl, r1, g1⟩
  have T2 := hid (Rp.mk r1 g1)
  have R2 := hid (Rp.mk T2.out.rd (grownBy_trans R1.out.fr T2.out.fr))
  have X2 := hid (X1.out.but T2.out.fr NE.out.1.symm)
  clear r1 g1 K2
  have d0 := X2.out.cell 0 _ rfl
  have d1 := X2.out.cell 1 _ rfl
  have d2 := X2.out.cell 2 _ rfl
  have fz := X2.out.fz
  have S := hid (set3 (.int .i64 (cI.rd s).1) (.int .i64 (cI.rd (cI.rd s).2).1) (.slice none 0 0) d0 d1 d2)
  have RF := hid (show Rp w (((w2.setCell ⟨r, 0, none⟩ (.int .i64 (cI.rd s).1)).setCell ⟨r, 1, none⟩ (.int .i64 (cI.rd (cI.rd s).2).1)).setCell ⟨r, 2, none⟩ (.slice none 0 0)) p q (cC.rd s).2 from ⟨(((R2.out.rd.set _ NE.out.1 NE.out.2).set _ NE.out.1 NE.out.2).set _ NE.out.1 NE.out.2), (fr_set (fr_set (fr_set R2.out.fr _ (Nat.le_of_eq WR.out.symm)) _ (Nat.le_of_eq WR.out.symm)) _ (Nat.le_of_eq WR.out.symm))⟩)
  go_wp2_with fail
  clear fz d0 d1 d2
  generalize (((w2.setCell ⟨r, 0, none⟩ (.int .i64 (cI.rd s).1)).setCell ⟨r, 1, none⟩ (.int .i64 (cI.rd (cI.rd s).2).1)).setCell ⟨r, 2, none⟩ (.slice none 0 0)) = wf at *
  obtain ⟨f0, f1, f2⟩ := S.out
  try simp only [Exit.inBlock, Exit.then]
  refine bodyPost_ret (by simp [results, Tryd.results49, go_sem, f0, f1, f2]; try rfl) rfl ?_
  exact ⟨rfl, RF.out⟩
set_option maxRecDepth 100000 in
set_option maxHeartbeats 8000000 in
theorem code_readInstr_any {w : World} {p q : Nat} {s : Sr} (h : Rd w p q s.2 s.1) (hn : s.1.length ≤ 20000000) (hq : q < w.heap.size) :
    Calls Tryd.prog 57 #[.pointer (some ⟨p, 0, none⟩)] w fun e w' => e = .returned (.agg #[.int .i64 (cN.rd s).1.1, .int .i64 (cN.rd s).1.2.1, .int .i64 (cN.rd s).1.2.2.1, .int .i64 (cN.rd s).1.2.2.2]) ∧ Rp w w' p q (cN.rd s).2 := by
  have hp := h.lt
  have R0 := hid (show Rp w (w.alloc (.cells #[.int .i64 0, .int .i64 0, .int .i64 0, .int .i64 0] 36)) p q s from ⟨h.below (allocB w _), fr_below ⟨rfl, rfl, rfl, Nat.le_refl _, fun _ _ _ => rfl⟩ (allocB w _)⟩)
  have X0 := hid (Bx.new w #[.int .i64 0, .int .i64 0, .int .i64 0, .int .i64 0] 36 (by decide))
  have PR := hid (And.intro hp hq)
  have D0 := hid hn
  obtain ⟨r, hr⟩ : ∃ r, r = w.heap.size := ⟨_, rfl⟩
  have WR := hid hr
  rw [← hr] at X0
  have NE := hid (show r ≠ p ∧ r ≠ q from by omega)
  clear h hn hp hq hr
  go_enter Tryd.func57, Tryd.ntmps57
  go_upto_region 1 with fail
  rw [← WR.out]
  generalize World.alloc w _ = w0 at *
  have K1 := hid (rnInt_any R0.out.rd D0.out)
  have D1 := hid (show (cI.rd s).2.1.length ≤ 20000000 from Nat.le_trans (cI_good.down s) D0.out)
  go_wp2_with fail
  (with_reducible refine Calls.mono K1.out ?_)
  rintro e w1 ⟨rfl, r1⟩
  have T1 := hid (r1)
  have R1 := hid (Rp.mk T1.out.rd (grownBy_trans R0.out.fr T1.out.fr))
  have X1 := hid (X0.out.but T1.out.fr NE.out.1.symm)
  clear r1 K1
  have K2 := hid (rnInt_any R1.out.rd D1.out)
  have D2 := hid (show (cI.rd (cI.rd s).2).2.1.length ≤ 20000000 from Nat.le_trans (cI_good.down (cI.rd s).2) D1.out)
  go_wp2_with fail
  (with_reducible refine Calls.mono K2.out ?_)
  rintro e w2 ⟨rfl, r1⟩
  have T2 := hid (r1)
  have R2 := hid (Rp.mk T2.out.rd (grownBy_trans R1.out.fr T2.out.fr))
  have X2 := hid (X1.out.but T2.out.fr NE.out.1.symm)
  clear r1 K2
  have K3 := hid (rnInt_any R2.out.rd D2.out)
  have D3 := hid (show (cI.rd (cI.rd (cI.rd s).2).2).2.1.length ≤ 20000000 from Nat.le_trans (cI_good.down (cI.rd (cI.rd s).2).2) D2.out)
  go_wp2_with fail
  (with_reducible refine Calls.mono K3.out ?_)
  rintro e w3 ⟨rfl, r1⟩
  have T3 := hid (r1)
  have R3 := hid (Rp.mk T3.out.rd (grownBy_trans R2.out.fr T3.out.fr))
  have X3 := hid (X2.out.but T3.out.fr NE.out.1.symm)
  clear r1 K3
  have K4 := hid (rnInt_any R3.out.rd D3.out)
  have D4 := hid (show (cI.rd (cI.rd (cI.rd (cI.rd s).2).2).2).2.1.length ≤ 20000000 from Nat.le_trans (cI_good.down (cI.rd (cI.rd (cI.rd s).2).2).2) D3.out)
  go_wp2_with fail
  (with_reducible refine Calls.mono K4.out ?_)
  rintro e w4 ⟨rfl, r1⟩
  have T4 := hid (r1)
  have R4 := hid (Rp.mk T4.out.rd (grownBy_trans R3.out.fr T4.out.fr))
  have X4 := hid (X3.out.but T4.out.fr NE.out.1.symm)
  clear r1 K4
  have d0 := X4.out.cell 0 _ rfl
  have d1 := X4.out.cell 1 _ rfl
  have d2 := X4.out.cell 2 _ rfl
  have d3 := X4.out.cell 3 _ rfl
  have fz := X4.out.fz
  have S := hid (set4 (.int .i64 (cI.rd s).1) (.int .i64 (cI.rd (cI.rd s).2).1) (.int .i64 (cI.rd (cI.rd (cI.rd s).2).2).1) (.int .i64 (cI.rd (cI.rd (cI.rd (cI.rd s).2).2).2).1) d0 d1 d2 d3)
  have RF := hid (show Rp w ((((w4.setCell ⟨r, 0, none⟩ (.int .i64 (cI.rd s).1)).setCell ⟨r, 1, none⟩ (.int .i64 (cI.rd (cI.rd s).2).1)).setCell ⟨r, 2, none⟩ (.int .i64 (cI.rd (cI.rd (cI.rd s).2).2).1)).setCell ⟨r, 3, none⟩ (.int .i64 (cI.rd (cI.rd (cI.rd (cI.rd s).2).2).2).1)) p q (cN.rd s).2 from ⟨((((R4.out.rd.set _ NE.out.1 NE.out.2).set _ NE.out.1 NE.out.2).set _ NE.out.1 NE.out.2).set _ NE.out.1 NE.out.2), (fr_set (fr_set (fr_set (fr_set R4.out.fr _ (Nat.le_of_eq WR.out.symm)) _ (Nat.le_of_eq WR.out.symm)) _ (Nat.le_of_eq WR.out.symm)) _ (Nat.le_of_eq WR.out.symm))⟩)
  go_wp2_with fail
  clear fz d0 d1 d2 d3
  generalize ((((w4.setCell ⟨r, 0, none⟩ (.int .i64 (cI.rd s).1)).setCell ⟨r, 1, none⟩ (.int .i64 (cI.rd (cI.rd s).2).1)).setCell ⟨r, 2, none⟩ (.int .i64 (cI.rd (cI.rd (cI.rd s).2).2).1)).setCell ⟨r, 3, none⟩ (.int .i64 (cI.rd (cI.rd (cI.rd (cI.rd s).2).2).2).1)) = wf at *
  obtain ⟨f0, f1, f2, f3⟩ := S.out
  try simp only [Exit.inBlock, Exit.then]
  refine bodyPost_ret (by simp [results, Tryd.results57, go_sem, f0, f1, f2, f3]; try rfl) rfl ?_
  exact ⟨rfl, RF.out⟩

end Go.Proofs.YtcmifdnndckpcaaDoor
