/- The walk over verify's Check, for programs of some instructions. -/
import Derived.Test.YtjkbiglnpoeddaaDoorVfx
namespace Go.Proofs.YtjkbiglnpoeddaaDoor.Vf
open Go.RowKit
set_option linter.unusedVariables false
set_option linter.unusedSimpArgs false

theorem onw_ok {p : Pg} (hh : haltsF p = none) (hw : waysF p = none) (k : Nat) (x : Ins) (hx : p.co[k]? = some x) (hR : Rst x.1) :
    (∀ t, t ∈ onwF k x → 0 ≤ t ∧ t < (p.co.length : Int)) ∧ (x.1 = 17 → (k : Int) < x.2.1 ∧ x.2.1 < (p.co.length : Int)) ∧ (x.1 = 19 → (k : Int) < x.2.2.2 ∧ x.2.2.2 < (p.co.length : Int)) ∧ (¬ x.1 = 23 → k + 1 < p.co.length) := by
  have hk : k < p.co.length := (List.getElem?_eq_some_iff.1 hx).1
  have a := frst_none _ _ hh k x hx
  have b := frst_none _ _ hw k x hx
  rw [Nat.zero_add] at a b
  unfold hlB at a
  unfold wyB at b
  simp only [Bool.and_eq_true] at b
  obtain ⟨⟨b1, b2⟩, _⟩ := b
  have n23 : ¬ x.1 = 23 → k + 1 < p.co.length := fun h => by
    rw [decide_eq_false h] at a
    by_cases q : k + 1 = p.co.length
    · rw [decide_eq_true q] at a; cases a
    · omega
  have n17 : x.1 = 17 → (k : Int) < x.2.1 ∧ x.2.1 < (p.co.length : Int) := fun h => by
    unfold ahB at b1
    rw [show tgF x = (x.2.1, true) from by unfold tgF; rw [if_pos (Or.inl h)]] at b1
    simp at b1
    exact b1
  have n19 : x.1 = 19 → (k : Int) < x.2.2.2 ∧ x.2.2.2 < (p.co.length : Int) := fun h => ah_is h b1
  refine ⟨fun t ht => ?_, n17, n19, n23⟩
  unfold onwF at ht
  split at ht
  · simp at ht
  · rename_i h23
    have c1 := n23 h23
    split at ht
    · rename_i h17
      simp at ht
      have := n17 h17
      omega
    · split at ht
      · rename_i h18
        rcases hR with h | h | h | h | h <;> (rw [h18] at h; cases h)
      · split at ht
        · rename_i h19
          simp at ht
          rcases ht with rfl | rfl
          · omega
          · rcases h19 with h | h
            · have := n19 h
              omega
            · unfold prB at b2
              rw [if_neg (by rw [h]; decide), if_pos h] at b2
              simp at b2
              omega
        · simp at ht
          omega
abbrev CkR := (Int × Int) × (Int × Int) × Bool
/-- What Check answers. -/
def ckR (s : S7) (p : Pg) : CkR :=
  if lisB s p = false then ((0, 0), (-1, 1), false)
  else match haltsF p with
  | some k => ((0, 0), ((k : Int), 2), false)
  | none => match opsF p with
    | some k => ((0, 0), ((k : Int), 3), false)
    | none => match waysF p with
      | some k => ((0, 0), ((k : Int), 4), false)
      | none => match (folF p).ft with
        | some k => ((0, 0), ((k : Int), 5), false)
        | none => match folO p (allF s.m3) with
          | some k => ((0, 0), ((k : Int), 6), false)
          | none => if decide (lenF p ≤ 1099511627776) = true then ((lenF p, (folF p).sg), (0, 0), true) else ((0, 0), (-1, 7), false)
def ckV (r : CkR) : Value := .tuple #[.agg #[.int .i64 r.1.1, .int .i64 r.1.2], .agg #[.int .i64 r.2.1.1, .int .i64 r.2.1.2], .bool r.2.2]
theorem fin4 {w W : World} {b2 b3 : Nat} (X2 : Bx W b2 24 #[.int .i64 0, .int .i64 0]) (X3 : Bx W b3 26 #[.int .i64 0, .int .i64 0]) (n : b2 ≠ b3) (B : Below w.heap.size w W) (h2 : w.heap.size ≤ b2) (h3 : w.heap.size ≤ b3) (k r s t : Int) :
    let Z := (((W.setCell ⟨b2, 0, none⟩ (.int .i64 s)).setCell ⟨b2, 1, none⟩ (.int .i64 t)).setCell ⟨b3, 0, none⟩ (.int .i64 k)).setCell ⟨b3, 1, none⟩ (.int .i64 r)
    Z.cell? ⟨b2, 0, none⟩ = some (.int .i64 s) ∧ Z.cell? ⟨b2, 1, none⟩ = some (.int .i64 t) ∧ Z.cell? ⟨b3, 0, none⟩ = some (.int .i64 k) ∧ Z.cell? ⟨b3, 1, none⟩ = some (.int .i64 r) ∧ Below w.heap.size w Z := by
  dsimp only
  obtain ⟨u0, u1⟩ := Bx.q2 X2
  obtain ⟨a0, a1⟩ := set2 (.int .i64 s) (.int .i64 t) u0 u1
  have X3' := Bx.kx X3 (((Kx.refl [b2] W).set (p := b2) (i := 0) (.int .i64 s) (by simp)).set (p := b2) (i := 1) (.int .i64 t) (by simp)) (by simp; exact fun e => n e.symm)
  obtain ⟨v0, v1⟩ := Bx.q2 X3'
  obtain ⟨c0, c1⟩ := set2 (.int .i64 k) (.int .i64 r) v0 v1
  refine ⟨(cell_other (Or.inl (fun e => n e.symm))).trans ((cell_other (Or.inl (fun e => n e.symm))).trans a0), (cell_other (Or.inl (fun e => n e.symm))).trans ((cell_other (Or.inl (fun e => n e.symm))).trans a1), c0, c1, ?_⟩
  exact (((((Kx.of [b2, b3] B).set (p := b2) _ (by simp)).set (p := b2) _ (by simp)).set (p := b3) _ (by simp)).set (p := b3) _ (by simp)).bel (Nat.le_refl _) (fun i hi => by simp at hi; rcases hi with e | e <;> subst e; exact h2; exact h3)
set_option maxRecDepth 100000 in
set_option maxHeartbeats 8000000 in
theorem Check_any {w : World} {s : S7} {p : Pg} (hP : Pv w s p) (hT : RT w) (h0 : s.m0 = 0) (h1 : s.m1 = 0) (h2 : s.m2 ≤ 1000000) (h3 : s.m3 ≤ 1000000) (h4 : s.m4 ≤ 1000000) (h6 : s.m6 ≤ 99999)
    (hR : lisB s p = true → haltsF p = none → opsF p = none → waysF p = none → ∀ x, x ∈ p.co → Rst x.1 ∧ 0 ≤ x.2.1 ∧ x.2.1 ≤ 63) :
    Calls Tryd.prog 6 #[.agg #[.slice s.a0 s.m0 s.c0, .slice s.a1 s.m1 s.c1, .slice s.a2 s.m2 s.c2, .slice s.a3 s.m3 s.c3, .slice s.a4 s.m4 s.c4, .slice s.a5 s.m5 s.c5, .slice s.a6 s.m6 s.c6]] w fun e w' => e = .returned (ckV (ckR s p)) ∧ Below w.heap.size w w' := by
  have A1 := allocB w (.cells #[.slice s.a0 s.m0 s.c0, .slice s.a1 s.m1 s.c1, .slice s.a2 s.m2 s.c2, .slice s.a3 s.m3 s.c3, .slice s.a4 s.m4 s.c4, .slice s.a5 s.m5 s.c5, .slice s.a6 s.m6 s.c6] 35)
  have X1 := Bx.new w #[.slice s.a0 s.m0 s.c0, .slice s.a1 s.m1 s.c1, .slice s.a2 s.m2 s.c2, .slice s.a3 s.m3 s.c3, .slice s.a4 s.m4 s.c4, .slice s.a5 s.m5 s.c5, .slice s.a6 s.m6 s.c6] 35 (by decide)
  obtain ⟨wa, hwa⟩ : ∃ wa, wa = w.alloc (.cells #[.slice s.a0 s.m0 s.c0, .slice s.a1 s.m1 s.c1, .slice s.a2 s.m2 s.c2, .slice s.a3 s.m3 s.c3, .slice s.a4 s.m4 s.c4, .slice s.a5 s.m5 s.c5, .slice s.a6 s.m6 s.c6] 35) := ⟨_, rfl⟩
  have Za : wa.heap.size = w.heap.size + 1 := by rw [hwa]; simp
  rw [← hwa] at A1 X1
  have A2 := allocB wa (.cells #[.int .i64 0, .int .i64 0] 24)
  have X2 := Bx.new wa #[.int .i64 0, .int .i64 0] 24 (by decide)
  obtain ⟨wb, hwb⟩ : ∃ wb, wb = wa.alloc (.cells #[.int .i64 0, .int .i64 0] 24) := ⟨_, rfl⟩
  have Zb : wb.heap.size = w.heap.size + 1 + 1 := by rw [hwb]; simp [Za]
  rw [← hwb] at A2 X2
  have A3 := allocB wb (.cells #[.int .i64 0, .int .i64 0] 26)
  have X3 := Bx.new wb #[.int .i64 0, .int .i64 0] 26 (by decide)
  obtain ⟨wc, hwc⟩ : ∃ wc, wc = wb.alloc (.cells #[.int .i64 0, .int .i64 0] 26) := ⟨_, rfl⟩
  have Zc : wc.heap.size = w.heap.size + 1 + 1 + 1 := by rw [hwc]; simp [Zb]
  rw [← hwc] at A3 X3
  obtain ⟨q, hq⟩ : ∃ q, q = w.heap.size := ⟨_, rfl⟩
  have BC := hid (nxB (nxB A1 A2) A3)
  have X1 := hid (Bx.next (Bx.next X1 A2) A3)
  have X2 := hid (Bx.next X2 A3)
  have X3 := hid X3
  rw [← hq] at X1
  rw [Za, ← hq] at X2
  rw [Zb, ← hq] at X3
  have WQ := hid hq
  have WW := hid (And.intro hwa (And.intro hwb hwc))
  have ZC := hid (show wc.heap.size = q + 1 + 1 + 1 from by rw [Zc, hq])
  have HH := hid (And.intro h0 (And.intro h1 (And.intro h2 (And.intro h3 (And.intro h4 h6)))))
  have HP := hid hP
  have HT := hid hT
  have HR := hid hR
  clear A1 A2 A3 Za Zb Zc hwa hwb hwc hq h0 h1 h2 h3 h4 h6 hP hT hR
  go_enter Tryd.func6, Tryd.ntmps6
  go_upto_region 1 with fail
  rw [← WW.out.1, ← WW.out.2.1, ← WW.out.2.2, ← WQ.out]
  have c0 : wc.cell? ⟨q, 0, none⟩ = some (.slice s.a0 s.m0 s.c0) := X1.out.cell 0 _ rfl
  have c1 : wc.cell? ⟨q, 1, none⟩ = some (.slice s.a1 s.m1 s.c1) := X1.out.cell 1 _ rfl
  have c2 : wc.cell? ⟨q, 2, none⟩ = some (.slice s.a2 s.m2 s.c2) := X1.out.cell 2 _ rfl
  have c3 : wc.cell? ⟨q, 3, none⟩ = some (.slice s.a3 s.m3 s.c3) := X1.out.cell 3 _ rfl
  have c4 : wc.cell? ⟨q, 4, none⟩ = some (.slice s.a4 s.m4 s.c4) := X1.out.cell 4 _ rfl
  have c5 : wc.cell? ⟨q, 5, none⟩ = some (.slice s.a5 s.m5 s.c5) := X1.out.cell 5 _ rfl
  have c6 : wc.cell? ⟨q, 6, none⟩ = some (.slice s.a6 s.m6 s.c6) := X1.out.cell 6 _ rfl
  have A4 := allocB wc (.cells #[.slice s.a0 s.m0 s.c0, .slice s.a1 s.m1 s.c1, .slice s.a2 s.m2 s.c2, .slice s.a3 s.m3 s.c3, .slice s.a4 s.m4 s.c4, .slice s.a5 s.m5 s.c5, .slice s.a6 s.m6 s.c6, .slice none 0 0, .int .i64 0, .int .i64 0] 44)
  have X4 := hid (show Ck (wc.alloc (.cells #[.slice s.a0 s.m0 s.c0, .slice s.a1 s.m1 s.c1, .slice s.a2 s.m2 s.c2, .slice s.a3 s.m3 s.c3, .slice s.a4 s.m4 s.c4, .slice s.a5 s.m5 s.c5, .slice s.a6 s.m6 s.c6, .slice none 0 0, .int .i64 0, .int .i64 0] 44)) wc.heap.size s (.slice none 0 0) 0 0 from Bx.new wc _ 44 (by decide))
  have B4 := hid (nxB BC.out A4)
  have X2 := hid (Bx.next X2.out A4)
  have X3 := hid (Bx.next X3.out A4)
  have CZ := hid (show w.heap.size ≤ wc.heap.size from BC.out.size)
  rw [ZC.out] at X4
  go_upto_region 2 with fail
  rw [ZC.out]
  clear c0 c1 c2 c3 c4 c5 c6 A4 X1
  generalize World.alloc wc _ = wd at *
  obtain ⟨c, hc⟩ : ∃ c, c = q + 1 + 1 + 1 := ⟨_, rfl⟩
  obtain ⟨b3, hb3⟩ : ∃ b3, b3 = q + 1 + 1 := ⟨_, rfl⟩
  obtain ⟨b2, hb2⟩ : ∃ b2, b2 = q + 1 := ⟨_, rfl⟩
  rw [← hc] at X4
  rw [← hb3] at X3
  rw [← hb2] at X2
  rw [← hc, ← hb3, ← hb2]
  have NE := hid (show b2 ≠ b3 ∧ b2 ≠ c ∧ b3 ≠ c ∧ w.heap.size ≤ b2 ∧ w.heap.size ≤ b3 ∧ w.heap.size ≤ c from by have := WQ.out; omega)
  clear hc hb3 hb2
  have A5 := allocB wd (.cells #[.nilFunc, .nilFunc, .nilFunc, .nilFunc, .nilFunc, .nilFunc, .nilFunc] 46)
  have XN := hid (Bx.new wd #[.nilFunc, .nilFunc, .nilFunc, .nilFunc, .nilFunc, .nilFunc, .nilFunc] 46 (by decide))
  have z0 : (wd.alloc (.cells #[.nilFunc, .nilFunc, .nilFunc, .nilFunc, .nilFunc, .nilFunc, .nilFunc] 46)).cell? ⟨wd.heap.size, 0, none⟩ = some .nilFunc := XN.out.cell 0 _ rfl
  have z1 : (wd.alloc (.cells #[.nilFunc, .nilFunc, .nilFunc, .nilFunc, .nilFunc, .nilFunc, .nilFunc] 46)).cell? ⟨wd.heap.size, 1, none⟩ = some .nilFunc := XN.out.cell 1 _ rfl
  have z2 : (wd.alloc (.cells #[.nilFunc, .nilFunc, .nilFunc, .nilFunc, .nilFunc, .nilFunc, .nilFunc] 46)).cell? ⟨wd.heap.size, 2, none⟩ = some .nilFunc := XN.out.cell 2 _ rfl
  have z3 : (wd.alloc (.cells #[.nilFunc, .nilFunc, .nilFunc, .nilFunc, .nilFunc, .nilFunc, .nilFunc] 46)).cell? ⟨wd.heap.size, 3, none⟩ = some .nilFunc := XN.out.cell 3 _ rfl
  have z4 : (wd.alloc (.cells #[.nilFunc, .nilFunc, .nilFunc, .nilFunc, .nilFunc, .nilFunc, .nilFunc] 46)).cell? ⟨wd.heap.size, 4, none⟩ = some .nilFunc := XN.out.cell 4 _ rfl
  have z5 : (wd.alloc (.cells #[.nilFunc, .nilFunc, .nilFunc, .nilFunc, .nilFunc, .nilFunc, .nilFunc] 46)).cell? ⟨wd.heap.size, 5, none⟩ = some .nilFunc := XN.out.cell 5 _ rfl
  have z6 : (wd.alloc (.cells #[.nilFunc, .nilFunc, .nilFunc, .nilFunc, .nilFunc, .nilFunc, .nilFunc] 46)).cell? ⟨wd.heap.size, 6, none⟩ = some .nilFunc := XN.out.cell 6 _ rfl
  have fz := Bx.fz2 XN.out
  have r0 := fun (W : World) => run_store Tryd.prog W ⟨wd.heap.size, 0, none⟩ (.func (.func 8) #[.pointer (some ⟨c, 0, none⟩)] #[]) .plain rfl
  have r1 := fun (W : World) => run_store Tryd.prog W ⟨wd.heap.size, 1, none⟩ (.func (.func 9) #[.pointer (some ⟨c, 0, none⟩)] #[]) .plain rfl
  have r2 := fun (W : World) => run_store Tryd.prog W ⟨wd.heap.size, 2, none⟩ (.func (.func 10) #[.pointer (some ⟨c, 0, none⟩)] #[]) .plain rfl
  have r3 := fun (W : World) => run_store Tryd.prog W ⟨wd.heap.size, 3, none⟩ (.func (.func 11) #[.pointer (some ⟨c, 0, none⟩)] #[]) .plain rfl
  have r4 := fun (W : World) => run_store Tryd.prog W ⟨wd.heap.size, 4, none⟩ (.func (.func 12) #[.pointer (some ⟨c, 0, none⟩)] #[]) .plain rfl
  have r5 := fun (W : World) => run_store Tryd.prog W ⟨wd.heap.size, 5, none⟩ (.func (.func 13) #[.pointer (some ⟨c, 0, none⟩)] #[]) .plain rfl
  have r6 := fun (W : World) => run_store Tryd.prog W ⟨wd.heap.size, 6, none⟩ (.func (.func 14) #[.pointer (some ⟨c, 0, none⟩)] #[]) .plain rfl
  have A6 := allocB wd (.cells #[.func (.func 8) #[.pointer (some ⟨c, 0, none⟩)] #[], .func (.func 9) #[.pointer (some ⟨c, 0, none⟩)] #[], .func (.func 10) #[.pointer (some ⟨c, 0, none⟩)] #[], .func (.func 11) #[.pointer (some ⟨c, 0, none⟩)] #[], .func (.func 12) #[.pointer (some ⟨c, 0, none⟩)] #[], .func (.func 13) #[.pointer (some ⟨c, 0, none⟩)] #[], .func (.func 14) #[.pointer (some ⟨c, 0, none⟩)] #[]] 46)
  have XA := hid (Bx.new wd #[.func (.func 8) #[.pointer (some ⟨c, 0, none⟩)] #[], .func (.func 9) #[.pointer (some ⟨c, 0, none⟩)] #[], .func (.func 10) #[.pointer (some ⟨c, 0, none⟩)] #[], .func (.func 11) #[.pointer (some ⟨c, 0, none⟩)] #[], .func (.func 12) #[.pointer (some ⟨c, 0, none⟩)] #[], .func (.func 13) #[.pointer (some ⟨c, 0, none⟩)] #[], .func (.func 14) #[.pointer (some ⟨c, 0, none⟩)] #[]] 46 (by decide))
  have B5 := hid (nxB B4.out A6)
  have X2 := hid (Bx.next X2.out A6)
  have X3 := hid (Bx.next X3.out A6)
  have X4 := hid (Bx.next X4.out A6)
  clear A6 B4
  go_upto_region 3 with fail
  clear A5 XN fz z0 r0 z1 r1 z2 r2 z3 r3 z4 r4 z5 r5 z6 r6
  generalize World.alloc wd _ = we at *
  generalize wd.heap.size = ar at *
  have f0 : we.cell? ⟨ar, 0, none⟩ = some (.func (.func 8) #[.pointer (some ⟨c, 0, none⟩)] #[]) := XA.out.cell 0 _ rfl
  have f1 : we.cell? ⟨ar, 1, none⟩ = some (.func (.func 9) #[.pointer (some ⟨c, 0, none⟩)] #[]) := XA.out.cell 1 _ rfl
  have f2 : we.cell? ⟨ar, 2, none⟩ = some (.func (.func 10) #[.pointer (some ⟨c, 0, none⟩)] #[]) := XA.out.cell 2 _ rfl
  have f3 : we.cell? ⟨ar, 3, none⟩ = some (.func (.func 11) #[.pointer (some ⟨c, 0, none⟩)] #[]) := XA.out.cell 3 _ rfl
  have f4 : we.cell? ⟨ar, 4, none⟩ = some (.func (.func 12) #[.pointer (some ⟨c, 0, none⟩)] #[]) := XA.out.cell 4 _ rfl
  have f5 : we.cell? ⟨ar, 5, none⟩ = some (.func (.func 13) #[.pointer (some ⟨c, 0, none⟩)] #[]) := XA.out.cell 5 _ rfl
  have f6 : we.cell? ⟨ar, 6, none⟩ = some (.func (.func 14) #[.pointer (some ⟨c, 0, none⟩)] #[]) := XA.out.cell 6 _ rfl
  go_upto_region 4 with fail
  clear f0 f1 f2 f3 f4 f5 f6 XA
  have B_0 := hid B5.out
  have X2_0 := hid X2.out
  have X3_0 := hid X3.out
  have X4_0 := hid X4.out
  clear B5 X2 X3 X4
  obtain ⟨h0, h1, h2, h3, h4, h6⟩ := HH.out
  have HH2 := hid (And.intro h0 (And.intro h1 (And.intro h2 (And.intro h3 (And.intro h4 h6)))))
  have n23 := NE.out.1
  have n32 : b3 ≠ b2 := fun e => n23 e.symm
  have HN := hid (show lisB s p = true → 0 < s.m6 from fun h => by
    unfold lisB rmB at h
    simp only [Bool.and_eq_true, decide_eq_true_eq] at h
    omega)
  clear h0 h1 h2 h3 h4 h6
  have ix0 : ∀ W : World, (Instr.index 46 (.agg #[.func (.func 8) #[.pointer (some ⟨c, 0, none⟩)] #[], .func (.func 9) #[.pointer (some ⟨c, 0, none⟩)] #[], .func (.func 10) #[.pointer (some ⟨c, 0, none⟩)] #[], .func (.func 11) #[.pointer (some ⟨c, 0, none⟩)] #[], .func (.func 12) #[.pointer (some ⟨c, 0, none⟩)] #[], .func (.func 13) #[.pointer (some ⟨c, 0, none⟩)] #[], .func (.func 14) #[.pointer (some ⟨c, 0, none⟩)] #[]]) (.int .i64 0)).run Tryd.prog W = .ok (.func (.func 8) #[.pointer (some ⟨c, 0, none⟩)] #[]) W := fun W => by kernel_rfl
  have ix1 : ∀ W : World, (Instr.index 46 (.agg #[.func (.func 8) #[.pointer (some ⟨c, 0, none⟩)] #[], .func (.func 9) #[.pointer (some ⟨c, 0, none⟩)] #[], .func (.func 10) #[.pointer (some ⟨c, 0, none⟩)] #[], .func (.func 11) #[.pointer (some ⟨c, 0, none⟩)] #[], .func (.func 12) #[.pointer (some ⟨c, 0, none⟩)] #[], .func (.func 13) #[.pointer (some ⟨c, 0, none⟩)] #[], .func (.func 14) #[.pointer (some ⟨c, 0, none⟩)] #[]]) (.int .i64 1)).run Tryd.prog W = .ok (.func (.func 9) #[.pointer (some ⟨c, 0, none⟩)] #[]) W := fun W => by kernel_rfl
  have ix2 : ∀ W : World, (Instr.index 46 (.agg #[.func (.func 8) #[.pointer (some ⟨c, 0, none⟩)] #[], .func (.func 9) #[.pointer (some ⟨c, 0, none⟩)] #[], .func (.func 10) #[.pointer (some ⟨c, 0, none⟩)] #[], .func (.func 11) #[.pointer (some ⟨c, 0, none⟩)] #[], .func (.func 12) #[.pointer (some ⟨c, 0, none⟩)] #[], .func (.func 13) #[.pointer (some ⟨c, 0, none⟩)] #[], .func (.func 14) #[.pointer (some ⟨c, 0, none⟩)] #[]]) (.int .i64 2)).run Tryd.prog W = .ok (.func (.func 10) #[.pointer (some ⟨c, 0, none⟩)] #[]) W := fun W => by kernel_rfl
  have ix3 : ∀ W : World, (Instr.index 46 (.agg #[.func (.func 8) #[.pointer (some ⟨c, 0, none⟩)] #[], .func (.func 9) #[.pointer (some ⟨c, 0, none⟩)] #[], .func (.func 10) #[.pointer (some ⟨c, 0, none⟩)] #[], .func (.func 11) #[.pointer (some ⟨c, 0, none⟩)] #[], .func (.func 12) #[.pointer (some ⟨c, 0, none⟩)] #[], .func (.func 13) #[.pointer (some ⟨c, 0, none⟩)] #[], .func (.func 14) #[.pointer (some ⟨c, 0, none⟩)] #[]]) (.int .i64 3)).run Tryd.prog W = .ok (.func (.func 11) #[.pointer (some ⟨c, 0, none⟩)] #[]) W := fun W => by kernel_rfl
  have ix4 : ∀ W : World, (Instr.index 46 (.agg #[.func (.func 8) #[.pointer (some ⟨c, 0, none⟩)] #[], .func (.func 9) #[.pointer (some ⟨c, 0, none⟩)] #[], .func (.func 10) #[.pointer (some ⟨c, 0, none⟩)] #[], .func (.func 11) #[.pointer (some ⟨c, 0, none⟩)] #[], .func (.func 12) #[.pointer (some ⟨c, 0, none⟩)] #[], .func (.func 13) #[.pointer (some ⟨c, 0, none⟩)] #[], .func (.func 14) #[.pointer (some ⟨c, 0, none⟩)] #[]]) (.int .i64 4)).run Tryd.prog W = .ok (.func (.func 12) #[.pointer (some ⟨c, 0, none⟩)] #[]) W := fun W => by kernel_rfl
  have ix5 : ∀ W : World, (Instr.index 46 (.agg #[.func (.func 8) #[.pointer (some ⟨c, 0, none⟩)] #[], .func (.func 9) #[.pointer (some ⟨c, 0, none⟩)] #[], .func (.func 10) #[.pointer (some ⟨c, 0, none⟩)] #[], .func (.func 11) #[.pointer (some ⟨c, 0, none⟩)] #[], .func (.func 12) #[.pointer (some ⟨c, 0, none⟩)] #[], .func (.func 13) #[.pointer (some ⟨c, 0, none⟩)] #[], .func (.func 14) #[.pointer (some ⟨c, 0, none⟩)] #[]]) (.int .i64 5)).run Tryd.prog W = .ok (.func (.func 13) #[.pointer (some ⟨c, 0, none⟩)] #[]) W := fun W => by kernel_rfl
  have ix6 : ∀ W : World, (Instr.index 46 (.agg #[.func (.func 8) #[.pointer (some ⟨c, 0, none⟩)] #[], .func (.func 9) #[.pointer (some ⟨c, 0, none⟩)] #[], .func (.func 10) #[.pointer (some ⟨c, 0, none⟩)] #[], .func (.func 11) #[.pointer (some ⟨c, 0, none⟩)] #[], .func (.func 12) #[.pointer (some ⟨c, 0, none⟩)] #[], .func (.func 13) #[.pointer (some ⟨c, 0, none⟩)] #[], .func (.func 14) #[.pointer (some ⟨c, 0, none⟩)] #[]]) (.int .i64 6)).run Tryd.prog W = .ok (.func (.func 14) #[.pointer (some ⟨c, 0, none⟩)] #[]) W := fun W => by kernel_rfl
  refine wp_loop_rounds 9 ?_
  rw [rounds_succ]
  cases zl : lisB s p with
  | false =>
    have EV := hid (show ckR s p = ((0, 0), (-1, 1), false) from by simp [ckR, zl])
    have K1 := hid (show Calls Tryd.prog 8 #[.pointer (some ⟨c, 0, none⟩)] we (fun e w' => e = .returned (.tuple #[.int .i64 (-1), .bool false]) ∧ Below we.heap.size we w') from by have h := lists_any X4_0.out (HP.out.next B_0.out) HH2.out.1 HH2.out.2.1 HH2.out.2.2.1 HH2.out.2.2.2.1 HH2.out.2.2.2.2.1; rw [zl] at h; exact h)
    go_wp2_with (go_at_call 8; (with_reducible refine Calls.mono K1.out ?_); rintro e w1 ⟨rfl, b9⟩; have B_1 := hid (nxB B_0.out b9); have X2_1 := hid (Bx.next X2_0.out b9); have X3_1 := hid (Bx.next X3_0.out b9); have X4_1 := hid (Bx.next X4_0.out b9); clear b9; obtain ⟨u0, u1⟩ := Bx.q2 X2_1.out; obtain ⟨v0, v1⟩ := Bx.q2 X3_1.out; have g2 := Bx.fz2 X2_1.out; have g3 := Bx.fz2 X3_1.out)
    have ST := hid (fin4 X2_1.out X3_1.out NE.out.1 B_1.out NE.out.2.2.2.1 NE.out.2.2.2.2.1 (-1) 1 0 0)
    clear u0 u1 v0 v1 g2 g3
    generalize (World.setCell (World.setCell (World.setCell (World.setCell w1 _ _) _ _) _ _) _ _) = wz at *
    obtain ⟨y0, y1, y2, y3, bz⟩ := ST.out
    try simp only [Exit.inBlock, Exit.then]
    refine bodyPost_ret (v := ckV ((0, 0), ((-1), 1), false)) (by simp [results, Tryd.results6, go_sem, ckV, y0, y1, y2, y3]; try rfl) rfl ?_
    exact ⟨by rw [EV.out], bz⟩
  | true =>
    have K1 := hid (show Calls Tryd.prog 8 #[.pointer (some ⟨c, 0, none⟩)] we (fun e w' => e = .returned (.tuple #[.int .i64 (-1), .bool true]) ∧ Below we.heap.size we w') from by have h := lists_any X4_0.out (HP.out.next B_0.out) HH2.out.1 HH2.out.2.1 HH2.out.2.2.1 HH2.out.2.2.2.1 HH2.out.2.2.2.2.1; rw [zl] at h; exact h)
    have n6 := HN.out zl
    go_wp2_with (go_at_call 8; (with_reducible refine Calls.mono K1.out ?_); rintro e w1 ⟨rfl, b9⟩; have B_1 := hid (nxB B_0.out b9); have X2_1 := hid (Bx.next X2_0.out b9); have X3_1 := hid (Bx.next X3_0.out b9); have X4_1 := hid (Bx.next X4_0.out b9); clear b9)
    rw [rounds_succ]
    cases zh : haltsF p with
    | some k =>
      have EV := hid (show ckR s p = ((0, 0), ((k : Int), 2), false) from by simp [ckR, zl, zh])
      have K2 := hid (show Calls Tryd.prog 9 #[.pointer (some ⟨c, 0, none⟩)] w1 (fun e w' => e = .returned (.tuple #[.int .i64 ((k : Nat)), .bool false]) ∧ Below w1.heap.size w1 w') from by have h := halts_any X4_1.out (HP.out.next B_1.out) (HT.out.next B_1.out) (by have := HH2.out.2.2.2.2.2; omega) n6; rw [zh] at h; exact h)
      go_wp2_with (go_at_call 9; (with_reducible refine Calls.mono K2.out ?_); rintro e w2 ⟨rfl, b9⟩; have B_2 := hid (nxB B_1.out b9); have X2_2 := hid (Bx.next X2_1.out b9); have X3_2 := hid (Bx.next X3_1.out b9); have X4_2 := hid (Bx.next X4_1.out b9); clear b9; obtain ⟨u0, u1⟩ := Bx.q2 X2_2.out; obtain ⟨v0, v1⟩ := Bx.q2 X3_2.out; have g2 := Bx.fz2 X2_2.out; have g3 := Bx.fz2 X3_2.out)
      have ST := hid (fin4 X2_2.out X3_2.out NE.out.1 B_2.out NE.out.2.2.2.1 NE.out.2.2.2.2.1 (k : Int) 2 0 0)
      clear u0 u1 v0 v1 g2 g3
      generalize (World.setCell (World.setCell (World.setCell (World.setCell w2 _ _) _ _) _ _) _ _) = wz at *
      obtain ⟨y0, y1, y2, y3, bz⟩ := ST.out
      try simp only [Exit.inBlock, Exit.then]
      refine bodyPost_ret (v := ckV ((0, 0), ((k : Int), 2), false)) (by simp [results, Tryd.results6, go_sem, ckV, y0, y1, y2, y3]; try rfl) rfl ?_
      exact ⟨by rw [EV.out], bz⟩
    | none =>
      have K2 := hid (show Calls Tryd.prog 9 #[.pointer (some ⟨c, 0, none⟩)] w1 (fun e w' => e = .returned (.tuple #[.int .i64 (0), .bool true]) ∧ Below w1.heap.size w1 w') from by have h := halts_any X4_1.out (HP.out.next B_1.out) (HT.out.next B_1.out) (by have := HH2.out.2.2.2.2.2; omega) n6; rw [zh] at h; exact h)
      go_wp2_with (go_at_call 9; (with_reducible refine Calls.mono K2.out ?_); rintro e w2 ⟨rfl, b9⟩; have B_2 := hid (nxB B_1.out b9); have X2_2 := hid (Bx.next X2_1.out b9); have X3_2 := hid (Bx.next X3_1.out b9); have X4_2 := hid (Bx.next X4_1.out b9); clear b9)
      rw [rounds_succ]
      cases zo : opsF p with
      | some k =>
        have EV := hid (show ckR s p = ((0, 0), ((k : Int), 3), false) from by simp [ckR, zl, zh, zo])
        have K3 := hid (show Calls Tryd.prog 10 #[.pointer (some ⟨c, 0, none⟩)] w2 (fun e w' => e = .returned (.tuple #[.int .i64 ((k : Nat)), .bool false]) ∧ Below w2.heap.size w2 w') from by have h := operands_any X4_2.out (HP.out.next B_2.out) (HT.out.next B_2.out) (HH2.out.2.2.2.2.1) (by have := HH2.out.2.2.2.2.2; omega) n6; rw [zo] at h; exact h)
        go_wp2_with (go_at_call 10; (with_reducible refine Calls.mono K3.out ?_); rintro e w3 ⟨rfl, b9⟩; have B_3 := hid (nxB B_2.out b9); have X2_3 := hid (Bx.next X2_2.out b9); have X3_3 := hid (Bx.next X3_2.out b9); have X4_3 := hid (Bx.next X4_2.out b9); clear b9; obtain ⟨u0, u1⟩ := Bx.q2 X2_3.out; obtain ⟨v0, v1⟩ := Bx.q2 X3_3.out; have g2 := Bx.fz2 X2_3.out; have g3 := Bx.fz2 X3_3.out)
        have ST := hid (fin4 X2_3.out X3_3.out NE.out.1 B_3.out NE.out.2.2.2.1 NE.out.2.2.2.2.1 (k : Int) 3 0 0)
        clear u0 u1 v0 v1 g2 g3
        generalize (World.setCell (World.setCell (World.setCell (World.setCell w3 _ _) _ _) _ _) _ _) = wz at *
        obtain ⟨y0, y1, y2, y3, bz⟩ := ST.out
        try simp only [Exit.inBlock, Exit.then]
        refine bodyPost_ret (v := ckV ((0, 0), ((k : Int), 3), false)) (by simp [results, Tryd.results6, go_sem, ckV, y0, y1, y2, y3]; try rfl) rfl ?_
        exact ⟨by rw [EV.out], bz⟩
      | none =>
        have K3 := hid (show Calls Tryd.prog 10 #[.pointer (some ⟨c, 0, none⟩)] w2 (fun e w' => e = .returned (.tuple #[.int .i64 (0), .bool true]) ∧ Below w2.heap.size w2 w') from by have h := operands_any X4_2.out (HP.out.next B_2.out) (HT.out.next B_2.out) (HH2.out.2.2.2.2.1) (by have := HH2.out.2.2.2.2.2; omega) n6; rw [zo] at h; exact h)
        go_wp2_with (go_at_call 10; (with_reducible refine Calls.mono K3.out ?_); rintro e w3 ⟨rfl, b9⟩; have B_3 := hid (nxB B_2.out b9); have X2_3 := hid (Bx.next X2_2.out b9); have X3_3 := hid (Bx.next X3_2.out b9); have X4_3 := hid (Bx.next X4_2.out b9); clear b9)
        rw [rounds_succ]
        have HTH := hid (fun x (hx : x ∈ p.co) => show thB p x = true from by
          obtain ⟨j, hj⟩ := List.mem_iff_getElem?.1 hx
          have := frst_none _ _ zo j x hj
          exact this)
        cases zw : waysF p with
        | some k =>
          have EV := hid (show ckR s p = ((0, 0), ((k : Int), 4), false) from by simp [ckR, zl, zh, zo, zw])
          have K4 := hid (show Calls Tryd.prog 11 #[.pointer (some ⟨c, 0, none⟩)] w3 (fun e w' => ∃ v, e = .returned (.tuple #[.int .i64 ((k : Nat)), .bool false]) ∧ WyP w3 w' c s p 0 0 v) from by have h := ways_any HP.out HT.out B_3.out NE.out.2.2.2.2.2 X4_3.out (by have := HH2.out.2.2.2.2.2; omega) n6 HH2.out.2.2.2.2.1 HTH.out; rw [zw] at h; exact h)
          go_wp2_with (go_at_call 11; (with_reducible refine Calls.mono K4.out ?_); rintro e w4 ⟨v9, rfl, p9⟩; have B_4 := hid (((Kx.of [c] B_3.out).trans p9.kx).bel (Nat.le_refl _) (fun i hi => by simp at hi; subst hi; exact NE.out.2.2.2.2.2)); have X2_4 := hid (Bx.kx X2_3.out p9.kx (by simp; exact NE.out.2.1)); have X3_4 := hid (Bx.kx X3_3.out p9.kx (by simp; exact NE.out.2.2.1)); have X4_4 := hid p9.ck; clear p9; obtain ⟨u0, u1⟩ := Bx.q2 X2_4.out; obtain ⟨v0, v1⟩ := Bx.q2 X3_4.out; have g2 := Bx.fz2 X2_4.out; have g3 := Bx.fz2 X3_4.out)
          have ST := hid (fin4 X2_4.out X3_4.out NE.out.1 B_4.out NE.out.2.2.2.1 NE.out.2.2.2.2.1 (k : Int) 4 0 0)
          clear u0 u1 v0 v1 g2 g3
          generalize (World.setCell (World.setCell (World.setCell (World.setCell w4 _ _) _ _) _ _) _ _) = wz at *
          obtain ⟨y0, y1, y2, y3, bz⟩ := ST.out
          try simp only [Exit.inBlock, Exit.then]
          refine bodyPost_ret (v := ckV ((0, 0), ((k : Int), 4), false)) (by simp [results, Tryd.results6, go_sem, ckV, y0, y1, y2, y3]; try rfl) rfl ?_
          exact ⟨by rw [EV.out], bz⟩
        | none =>
          have K4 := hid (show Calls Tryd.prog 11 #[.pointer (some ⟨c, 0, none⟩)] w3 (fun e w' => ∃ v, e = .returned (.tuple #[.int .i64 (0), .bool true]) ∧ WyP w3 w' c s p 0 0 v) from by have h := ways_any HP.out HT.out B_3.out NE.out.2.2.2.2.2 X4_3.out (by have := HH2.out.2.2.2.2.2; omega) n6 HH2.out.2.2.2.2.1 HTH.out; rw [zw] at h; exact h)
          go_wp2_with (go_at_call 11; (with_reducible refine Calls.mono K4.out ?_); rintro e w4 ⟨v9, rfl, p9⟩; have B_4 := hid (((Kx.of [c] B_3.out).trans p9.kx).bel (Nat.le_refl _) (fun i hi => by simp at hi; subst hi; exact NE.out.2.2.2.2.2)); have X2_4 := hid (Bx.kx X2_3.out p9.kx (by simp; exact NE.out.2.1)); have X3_4 := hid (Bx.kx X3_3.out p9.kx (by simp; exact NE.out.2.2.1)); have X4_4 := hid p9.ck; clear p9)
          rw [rounds_succ]
          have RR := hid (HR.out zl zh zo zw)
          have LN6 := hid (HP.out.k6.len)
          have HO := hid (fun (k : Nat) x (hx : p.co[k]? = some x) => show ∀ t, t ∈ onwF k x → 0 ≤ t ∧ t < (s.m6 : Int) from by rw [← LN6.out]; exact (onw_ok zh zw k x hx (RR.out x (List.mem_of_getElem? hx)).1).1)
          have HW := hid (fun (k : Nat) x (hx : p.co[k]? = some x) => show (x.1 = 17 → (k : Int) < x.2.1 ∧ x.2.1 < (s.m6 : Int)) ∧ (x.1 = 19 → (k : Int) < x.2.2.2 ∧ x.2.2.2 < (s.m6 : Int)) ∧ (¬ x.1 = 23 → k + 1 < s.m6) from by rw [← LN6.out]; exact (onw_ok zh zw k x hx (RR.out x (List.mem_of_getElem? hx)).1).2)
          have M3 := hid (show s.m3 ≤ 64 from by
            have h := zl
            unfold lisB rmB at h
            simp only [Bool.and_eq_true, decide_eq_true_eq] at h
            omega)
          cases zs : (folF p).ft with
          | some k =>
            have EV := hid (show ckR s p = ((0, 0), ((k : Int), 5), false) from by simp [ckR, zl, zh, zo, zw, zs])
            have K5 := hid (show Calls Tryd.prog 12 #[.pointer (some ⟨c, 0, none⟩)] w4 (fun e w' => e = .returned (.tuple #[.int .i64 ((k : Nat)), .bool false]) ∧ StP w4 w' c s v9 0 (folF p).sg) from by have h := stacks_any HP.out HT.out B_4.out NE.out.2.2.2.2.2 X4_4.out HH2.out.2.2.2.2.2 n6 (fun x hx => (RR.out x hx).1) HO.out; rw [zs] at h; exact h)
            go_wp2_with (go_at_call 12; (with_reducible refine Calls.mono K5.out ?_); rintro e w5 ⟨rfl, p9⟩; have B_5 := hid (((Kx.of [c] B_4.out).trans p9.kx).bel (Nat.le_refl _) (fun i hi => by simp at hi; subst hi; exact NE.out.2.2.2.2.2)); have X2_5 := hid (Bx.kx X2_4.out p9.kx (by simp; exact NE.out.2.1)); have X3_5 := hid (Bx.kx X3_4.out p9.kx (by simp; exact NE.out.2.2.1)); have X4_5 := hid p9.ck; clear p9; obtain ⟨u0, u1⟩ := Bx.q2 X2_5.out; obtain ⟨v0, v1⟩ := Bx.q2 X3_5.out; have g2 := Bx.fz2 X2_5.out; have g3 := Bx.fz2 X3_5.out)
            have ST := hid (fin4 X2_5.out X3_5.out NE.out.1 B_5.out NE.out.2.2.2.1 NE.out.2.2.2.2.1 (k : Int) 5 0 0)
            clear u0 u1 v0 v1 g2 g3
            generalize (World.setCell (World.setCell (World.setCell (World.setCell w5 _ _) _ _) _ _) _ _) = wz at *
            obtain ⟨y0, y1, y2, y3, bz⟩ := ST.out
            try simp only [Exit.inBlock, Exit.then]
            refine bodyPost_ret (v := ckV ((0, 0), ((k : Int), 5), false)) (by simp [results, Tryd.results6, go_sem, ckV, y0, y1, y2, y3]; try rfl) rfl ?_
            exact ⟨by rw [EV.out], bz⟩
          | none =>
            have K5 := hid (show Calls Tryd.prog 12 #[.pointer (some ⟨c, 0, none⟩)] w4 (fun e w' => e = .returned (.tuple #[.int .i64 (-1), .bool true]) ∧ StP w4 w' c s v9 0 (folF p).sg) from by have h := stacks_any HP.out HT.out B_4.out NE.out.2.2.2.2.2 X4_4.out HH2.out.2.2.2.2.2 n6 (fun x hx => (RR.out x hx).1) HO.out; rw [zs] at h; exact h)
            go_wp2_with (go_at_call 12; (with_reducible refine Calls.mono K5.out ?_); rintro e w5 ⟨rfl, p9⟩; have B_5 := hid (((Kx.of [c] B_4.out).trans p9.kx).bel (Nat.le_refl _) (fun i hi => by simp at hi; subst hi; exact NE.out.2.2.2.2.2)); have X2_5 := hid (Bx.kx X2_4.out p9.kx (by simp; exact NE.out.2.1)); have X3_5 := hid (Bx.kx X3_4.out p9.kx (by simp; exact NE.out.2.2.1)); have X4_5 := hid p9.ck; clear p9)
            rw [rounds_succ]
            cases zp : folO p (allF s.m3) with
            | some k =>
              have EV := hid (show ckR s p = ((0, 0), ((k : Int), 6), false) from by simp [ckR, zl, zh, zo, zw, zs, zp])
              have K6 := hid (show Calls Tryd.prog 13 #[.pointer (some ⟨c, 0, none⟩)] w5 (fun e w' => e = .returned (.tuple #[.int .i64 ((k : Nat)), .bool false]) ∧ Below w5.heap.size w5 w') from by have h := outputs_any HP.out HT.out B_5.out X4_5.out HH2.out.2.2.2.2.2 n6 M3.out RR.out HO.out; rw [zp] at h; exact h)
              go_wp2_with (go_at_call 13; (with_reducible refine Calls.mono K6.out ?_); rintro e w6 ⟨rfl, b9⟩; have B_6 := hid (nxB B_5.out b9); have X2_6 := hid (Bx.next X2_5.out b9); have X3_6 := hid (Bx.next X3_5.out b9); have X4_6 := hid (Bx.next X4_5.out b9); clear b9; obtain ⟨u0, u1⟩ := Bx.q2 X2_6.out; obtain ⟨v0, v1⟩ := Bx.q2 X3_6.out; have g2 := Bx.fz2 X2_6.out; have g3 := Bx.fz2 X3_6.out)
              have ST := hid (fin4 X2_6.out X3_6.out NE.out.1 B_6.out NE.out.2.2.2.1 NE.out.2.2.2.2.1 (k : Int) 6 0 0)
              clear u0 u1 v0 v1 g2 g3
              generalize (World.setCell (World.setCell (World.setCell (World.setCell w6 _ _) _ _) _ _) _ _) = wz at *
              obtain ⟨y0, y1, y2, y3, bz⟩ := ST.out
              try simp only [Exit.inBlock, Exit.then]
              refine bodyPost_ret (v := ckV ((0, 0), ((k : Int), 6), false)) (by simp [results, Tryd.results6, go_sem, ckV, y0, y1, y2, y3]; try rfl) rfl ?_
              exact ⟨by rw [EV.out], bz⟩
            | none =>
              have K6 := hid (show Calls Tryd.prog 13 #[.pointer (some ⟨c, 0, none⟩)] w5 (fun e w' => e = .returned (.tuple #[.int .i64 (-1), .bool true]) ∧ Below w5.heap.size w5 w') from by have h := outputs_any HP.out HT.out B_5.out X4_5.out HH2.out.2.2.2.2.2 n6 M3.out RR.out HO.out; rw [zp] at h; exact h)
              go_wp2_with (go_at_call 13; (with_reducible refine Calls.mono K6.out ?_); rintro e w6 ⟨rfl, b9⟩; have B_6 := hid (nxB B_5.out b9); have X2_6 := hid (Bx.next X2_5.out b9); have X3_6 := hid (Bx.next X3_5.out b9); have X4_6 := hid (Bx.next X4_5.out b9); clear b9)
              rw [rounds_succ]
              cases zn : decide (lenF p ≤ 1099511627776) with
              | false =>
                have EV := hid (show ckR s p = ((0, 0), (-1, 7), false) from by simp only [ckR, zl, zh, zo, zw, zs, zp, zn]; rfl)
                have K7 := hid (show Calls Tryd.prog 14 #[.pointer (some ⟨c, 0, none⟩)] w6 (fun e w' => e = .returned (.tuple #[.int .i64 (-1), .bool false]) ∧ StP w6 w' c s v9 (lenF p) (folF p).sg) from by have h := lengths_any HP.out HT.out B_6.out X4_6.out HH2.out.2.2.2.2.2 n6 (fun x hx => (RR.out x hx).1) HW.out; rw [zn] at h; exact h)
                go_wp2_with (go_at_call 14; (with_reducible refine Calls.mono K7.out ?_); rintro e w7 ⟨rfl, p9⟩; have B_7 := hid (((Kx.of [c] B_6.out).trans p9.kx).bel (Nat.le_refl _) (fun i hi => by simp at hi; subst hi; exact NE.out.2.2.2.2.2)); have X2_7 := hid (Bx.kx X2_6.out p9.kx (by simp; exact NE.out.2.1)); have X3_7 := hid (Bx.kx X3_6.out p9.kx (by simp; exact NE.out.2.2.1)); have X4_7 := hid p9.ck; clear p9; obtain ⟨u0, u1⟩ := Bx.q2 X2_7.out; obtain ⟨v0, v1⟩ := Bx.q2 X3_7.out; have g2 := Bx.fz2 X2_7.out; have g3 := Bx.fz2 X3_7.out)
                have ST := hid (fin4 X2_7.out X3_7.out NE.out.1 B_7.out NE.out.2.2.2.1 NE.out.2.2.2.2.1 (-1) 7 0 0)
                clear u0 u1 v0 v1 g2 g3
                generalize (World.setCell (World.setCell (World.setCell (World.setCell w7 _ _) _ _) _ _) _ _) = wz at *
                obtain ⟨y0, y1, y2, y3, bz⟩ := ST.out
                try simp only [Exit.inBlock, Exit.then]
                refine bodyPost_ret (v := ckV ((0, 0), ((-1), 7), false)) (by simp [results, Tryd.results6, go_sem, ckV, y0, y1, y2, y3]; try rfl) rfl ?_
                exact ⟨by rw [EV.out], bz⟩
              | true =>
                have EV := hid (show ckR s p = ((lenF p, (folF p).sg), (0, 0), true) from by simp only [ckR, zl, zh, zo, zw, zs, zp, zn]; rfl)
                have K7 := hid (show Calls Tryd.prog 14 #[.pointer (some ⟨c, 0, none⟩)] w6 (fun e w' => e = .returned (.tuple #[.int .i64 (-1), .bool true]) ∧ StP w6 w' c s v9 (lenF p) (folF p).sg) from by have h := lengths_any HP.out HT.out B_6.out X4_6.out HH2.out.2.2.2.2.2 n6 (fun x hx => (RR.out x hx).1) HW.out; rw [zn] at h; exact h)
                go_wp2_with (go_at_call 14; (with_reducible refine Calls.mono K7.out ?_); rintro e w7 ⟨rfl, p9⟩; have B_7 := hid (((Kx.of [c] B_6.out).trans p9.kx).bel (Nat.le_refl _) (fun i hi => by simp at hi; subst hi; exact NE.out.2.2.2.2.2)); have X2_7 := hid (Bx.kx X2_6.out p9.kx (by simp; exact NE.out.2.1)); have X3_7 := hid (Bx.kx X3_6.out p9.kx (by simp; exact NE.out.2.2.1)); have X4_7 := hid p9.ck; clear p9)
                rw [rounds_succ]
                obtain ⟨u0, u1⟩ := Bx.q2 X2_7.out
                obtain ⟨v0, v1⟩ := Bx.q2 X3_7.out
                have g2 := Bx.fz2 X2_7.out
                have g3 := Bx.fz2 X3_7.out
                have c8 : w7.cell? ⟨c, 8, none⟩ = some (.int .i64 (lenF p)) := X4_7.out.cell 8 _ rfl
                have c9 : w7.cell? ⟨c, 9, none⟩ = some (.int .i64 (folF p).sg) := X4_7.out.cell 9 _ rfl
                go_wp2_with fail
                have ST := hid (fin4 X2_7.out X3_7.out NE.out.1 B_7.out NE.out.2.2.2.1 NE.out.2.2.2.2.1 0 0 (lenF p) (folF p).sg)
                clear u0 u1 v0 v1 g2 g3 c8 c9
                generalize (World.setCell (World.setCell (World.setCell (World.setCell w7 _ _) _ _) _ _) _ _) = wz at *
                obtain ⟨y0, y1, y2, y3, bz⟩ := ST.out
                try simp only [Exit.inBlock, Exit.then]
                refine bodyPost_ret (v := ckV ((lenF p, (folF p).sg), (0, 0), true)) (by simp [results, Tryd.results6, go_sem, ckV, y0, y1, y2, y3]; try rfl) rfl ?_
                exact ⟨by rw [EV.out], bz⟩

end Go.Proofs.YtjkbiglnpoeddaaDoor.Vf
