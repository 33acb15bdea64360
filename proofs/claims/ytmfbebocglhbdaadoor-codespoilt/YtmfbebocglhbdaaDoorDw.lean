/- The walk over the law CodeSpoilt. -/
import Derived.Test.YtmfbebocglhbdaaDoorDv
import Derived.Deep.DeepCutAuto
import Derived.Laws.BitsAllLaws
namespace Go.Proofs.YtmfbebocglhbdaaDoor
open Go.RowKit
set_option linter.unusedVariables false
set_option linter.unusedSimpArgs false

theorem own_set {w : World} {base g n cap j : Nat} {bs : List Int} {y : Int} (h : Own w base (.slice (some ⟨g, 0, none⟩) n cap) bs) (hn : bs.length = n) (hj : j < n) (h0 : 0 ≤ y) (h1 : y < 256) :
    Own (w.setCell ⟨g, j, none⟩ (.int .u8 y)) base (.slice (some ⟨g, 0, none⟩) n cap) (bs.set j y) := by
  subst hn
  have := h.row.stored j (.int .u8 y)
  refine ⟨?_, fun x hx => ?_⟩
  · rw [List.length_set, List.map_set]
    exact this.1
  · rcases List.mem_or_eq_of_mem_set hx with q | q
    · exact h.ok x q
    · subst q; exact ⟨h0, h1⟩

theorem xor_new {x y : Nat} (hx : x < 256) (hy : y < 256) (h : y ≠ 0) : (x ^^^ y) < 256 ∧ x ^^^ y ≠ x := by
  refine ⟨Nat.xor_lt_two_pow (n := 8) hx hy, fun e => h ?_⟩
  have e' : x ^^^ y = x ^^^ 0 := by rw [e, Nat.xor_zero]
  have := xor_cancel_left (a := x) (b := y) (c := 0) (by rw [e', Nat.xor_zero])
  exact this
theorem errP_cases (bs : List Int) : (errP bs = 3 ∧ decP bs = none) ∨ (errP bs = 0 ∧ decP bs = some (rdP bs) ∧ bytesOf (rdP bs) = bs) := by
  by_cases h : 8 ≤ bs.length ∧ bytesOf (rdP bs) = bs
  · have := decP_yes h.1 h.2
    exact Or.inr ⟨this.2, this.1, h.2⟩
  · have := decP_no h
    exact Or.inl ⟨this.2, this.1⟩
set_option maxRecDepth 100000 in
set_option maxHeartbeats 16000000 in
theorem spoilt_walk (w : World) (hT : Tt w) (v : Value) (p : PP) (hp : Pw w v p) (at_ : Int) (ha : (Lit.int .i64 at_).wf = true) (by_ : Int) (hb : (Lit.int .u8 by_).wf = true) :
    Calls Tryd.prog 6 #[v, .int .i64 at_, .int .u8 by_] w fun e w' => e = .returned (.bool true) ∧ Below w.heap.size w w' := by
  have HP := hid hp
  obtain ⟨pa0, pm0, pc0, pa1, pm1, pc1, pa2, pm2, pc2, pa3, pm3, pc3, pa4, pm4, pc4, pa5, pm5, pc5, pa6, pm6, pc6, rfl, -⟩ := hp.ex
  have B1 := hid (allocB w (.cells #[.slice pa0 pm0 pc0, .slice pa1 pm1 pc1, .slice pa2 pm2 pc2, .slice pa3 pm3 pc3, .slice pa4 pm4 pc4, .slice pa5 pm5 pc5, .slice pa6 pm6 pc6] 29))
  have X1 := hid (Bx.new w #[.slice pa0 pm0 pc0, .slice pa1 pm1 pc1, .slice pa2 pm2 pc2, .slice pa3 pm3 pc3, .slice pa4 pm4 pc4, .slice pa5 pm5 pc5, .slice pa6 pm6 pc6] 29 (by decide))
  have T1 := hid (hT.next B1.out)
  have P1 := hid (HP.out.next B1.out)
  have hb2 : 0 ≤ by_ ∧ by_ < 256 := by
    simp [Lit.wf, IntKind.min, IntKind.max, IntKind.signed, IntKind.bits] at hb
    omega
  have HB := hid hb2
  have T0 := hid hT
  clear hp hT ha hb hb2
  go_enter Tryd.func6, Tryd.ntmps6
  go_upto_region 1 with fail
  obtain ⟨x, hx⟩ : ∃ x, x = w.heap.size := ⟨_, rfl⟩
  rw [← hx] at X1 ⊢
  clear hx
  generalize World.alloc w _ = w1 at *
  have KA := hid (awake_any w1 T1.out)
  go_wp2_with fail
  (with_reducible refine Calls.mono KA.out ?_)
  rintro e w2 ⟨rfl, b2⟩
  have B2 := hid (nextB B1.out b2)
  have X2 := hid (X1.out.next b2)
  have T2 := hid (T1.out.next b2)
  have P2 := hid (P1.out.next b2)
  have KG := hid (great_any w2 _ p P2.out)
  clear b2 KA B1 X1 T1 P1
  have d0 := X2.out.cell 0 _ rfl
  have d1 := X2.out.cell 1 _ rfl
  have d2 := X2.out.cell 2 _ rfl
  have d3 := X2.out.cell 3 _ rfl
  have d4 := X2.out.cell 4 _ rfl
  have d5 := X2.out.cell 5 _ rfl
  have d6 := X2.out.cell 6 _ rfl
  go_wp2_with fail
  (with_reducible refine Calls.mono KG.out ?_)
  rintro e w3 h3
  obtain ⟨b, rfl, b3, sm⟩ := h3
  clear d0 d1 d2 d3 d4 d5 d6 KG
  have B3 := hid (nextB B2.out b3)
  have X3 := hid (X2.out.next b3)
  have T3 := hid (T2.out.next b3)
  have P3 := hid (P2.out.next b3)
  clear b3 B2 X2 T2 P2
  cases b with
  | true =>
    go_wp2_with fail
    go_ret
    exact ⟨rfl, B3.out⟩
  | false =>
  have SM := hid (sm rfl)
  clear sm
  by_cases z : by_ = 0
  · subst z
    go_wp2_with fail
    go_ret
    exact ⟨rfl, B3.out⟩
  have OK := hid (P3.out.ok SM.out)
  have LB := hid (small_bytes OK.out SM.out)
  have z' : (by_ == 0) = false := by simp [z]
  have KE := hid (code_Encode_any w3 _ p P3.out (by have := LB.out; omega) T3.out.sm)
  have d0 := X3.out.cell 0 _ rfl
  have d1 := X3.out.cell 1 _ rfl
  have d2 := X3.out.cell 2 _ rfl
  have d3 := X3.out.cell 3 _ rfl
  have d4 := X3.out.cell 4 _ rfl
  have d5 := X3.out.cell 5 _ rfl
  have d6 := X3.out.cell 6 _ rfl
  go_wp2_with fail
  (with_reducible refine Calls.mono KE.out ?_)
  rintro e w4 ⟨⟨v4, rfl, o4⟩, b4⟩
  clear d0 d1 d2 d3 d4 d5 d6 KE
  have B4 := hid (nextB B3.out b4)
  have X4 := hid (X3.out.next b4)
  have T4 := hid (T3.out.next b4)
  have P4 := hid (P3.out.next b4)
  have G4 := hid (show ∀ k, v4.ownBlock = some k → w3.heap.size ≤ k from fun k e => (o4.row.lt k e).1)
  have X3L := hid (show x < w3.heap.size from (Array.getElem?_eq_some_iff.1 X3.out.at_).1)
  have W3 := hid B3.out.size
  obtain ⟨ga, n, c, hv4, y4⟩ : ∃ a n c, v4 = .slice a n c ∧ By w4 a n c (bytesOf p) := by
    obtain ⟨a, c, e, y, -, -⟩ := o4.by
    exact ⟨a, _, c, e, y⟩
  subst hv4
  have LN := hid (show (bytesOf p).length = n from y4.len)
  have N4 := hid (show n ≤ 200008 from by have h1 := bytes_len p; have h2 := LB.out; have h3 := y4.len; omega)
  have n8 : 8 ≤ n := by have h1 := bytes_len p; have h3 := y4.len; omega
  clear b4 B3 T3 P3 X3
  by_cases q1 : at_ < 0
  · clear y4 o4
    go_wp2_with fail
    go_ret
    exact ⟨rfl, B4.out⟩
  obtain ⟨i, rfl⟩ : ∃ i : Nat, at_ = i := ⟨at_.toNat, by omega⟩
  by_cases q2 : n ≤ i
  · have q2' : (n : Int) ≤ (i : Int) := by omega
    clear y4 o4
    go_wp2_with fail
    go_ret
    exact ⟨rfl, B4.out⟩
  have q2' : ¬ (n : Int) ≤ (i : Int) := by omega
  have q3 : i < n := by omega
  obtain ⟨g, rfl⟩ : ∃ g, ga = some ⟨g, 0, none⟩ := by
    rcases o4.row.2 with ⟨h1, h2⟩ | ⟨g, cap, cur, h1, _⟩
    · have := LN.out; omega
    · injection h1 with h1; exact ⟨g, h1⟩
  obtain ⟨by0, hby⟩ : ∃ y : Nat, by_ = y := ⟨by_.toNat, by have := HB.out; omega⟩
  subst hby
  have hx := y4.ok.getD i
  obtain ⟨xv, hxv⟩ : ∃ x : Nat, (bytesOf p).getD i 0 = x := ⟨((bytesOf p).getD i 0).toNat, by omega⟩
  have hx8 : xv < 256 := by omega
  have hy8 : by0 < 256 := by have := HB.out; omega
  have r1 := u8_xor_nat xv by0 hx8 hy8
  have hn := xor_new hx8 hy8 (fun e => z (by rw [e]; rfl))
  have e0 : w4.cell? ⟨g, i, none⟩ = some (.int .u8 (xv : Nat)) := by
    have := o4.row
    rw [LN.out] at this
    rw [this.cellAt i (by omega)]
    have hi : i < (bytesOf p).length := by rw [LN.out]; exact q3
    rw [List.getElem?_map, List.getElem?_eq_getElem hi]
    have : (bytesOf p).getD i 0 = (bytesOf p)[i] := by simp [List.getD, hi]
    rw [← this, hxv]
    rfl
  have f0 : w4.frozen? ⟨g, i, none⟩ = false := by
    have := o4.row
    rw [LN.out] at this
    exact this.frozenAt i
  obtain ⟨yn, hyn⟩ : ∃ y : Nat, y = xv ^^^ by0 := ⟨_, rfl⟩
  rw [← hyn] at r1 hn
  have O5 := hid (own_set (j := i) (y := (yn : Int)) o4 LN.out q3 (by omega) (by omega))
  have HL0 := hid (show ((bytesOf p).set i (yn : Int)).length = n from by rw [List.length_set]; exact LN.out)
  have NE := hid (show (bytesOf p).set i (yn : Int) ≠ bytesOf p from fun e => by
    have h1 : ((bytesOf p).set i (yn : Int)).getD i 0 = (yn : Int) := by
      have hi : i < (bytesOf p).length := by rw [LN.out]; exact q3
      simp [List.getD, hi]
    rw [e, hxv] at h1
    exact hn.2 (by omega))
  have gw : w3.heap.size ≤ g := G4.out g rfl
  have GS := hid (grownBy_setCell w4 g i (.int .u8 (yn : Int)))
  have B5 := hid (bl_but B4.out (show w.heap.size ≤ g from Nat.le_trans W3.out gw) GS.out)
  have xg : g ≠ x := by have := X3L.out; omega
  have X5 := hid (show Bx (w4.setCell ⟨g, i, none⟩ (.int .u8 (yn : Int))) x _ _ from X4.out.but GS.out xg)
  have P5 := hid (HP.out.next B5.out)
  have T5 := hid (T0.out.next B5.out)
  obtain ⟨hc, hcc⟩ : ∃ l, l = (bytesOf p).set i (yn : Int) := ⟨_, rfl⟩
  have Y5 := hid (show By (w4.setCell ⟨g, i, none⟩ (.int .u8 (yn : Int))) (some ⟨g, 0, none⟩) n c hc from by
    obtain ⟨a, c', e, y, -, -⟩ := O5.out.by
    rw [← hcc] at e y
    injection e with e1 e2 e3
    rw [← e1, ← e2, ← e3] at y
    exact y)
  rw [← hcc] at NE HL0
  have HL := HL0
  clear HL0
  clear O5 y4 o4 hyn hxv hx hcc
  go_upto_region 9 with fail
  clear e0 f0 r1
  generalize World.setCell w4 _ _ = w5 at *
  have KD := hid (code_Decode_any w5 (some ⟨g, 0, none⟩) n c hc Y5.out (by have := N4.out; omega) T5.out.sm)
  go_wp2_with fail
  (with_reducible refine Calls.mono KD.out ?_)
  rintro e w6 h6
  obtain ⟨v6, rfl, p6, b6⟩ := h6
  have P6 := hid p6
  obtain ⟨qa0, qm0, qc0, qa1, qm1, qc1, qa2, qm2, qc2, qa3, qm3, qc3, qa4, qm4, qc4, qa5, qm5, qc5, qa6, qm6, qc6, rfl, -⟩ := p6.ex
  have B6 := hid (nextB B5.out b6)
  have X6 := hid (X5.out.next b6)
  clear b6 p6 KD X5 B5 Y5
  have A7 := hid (allocB w6 (.cells #[.slice qa0 qm0 qc0, .slice qa1 qm1 qc1, .slice qa2 qm2 qc2, .slice qa3 qm3 qc3, .slice qa4 qm4 qc4, .slice qa5 qm5 qc5, .slice qa6 qm6 qc6] 29))
  have X7 := hid (X6.out.next A7.out)
  have Z7 := hid (Bx.new w6 #[.slice qa0 qm0 qc0, .slice qa1 qm1 qc1, .slice qa2 qm2 qc2, .slice qa3 qm3 qc3, .slice qa4 qm4 qc4, .slice qa5 qm5 qc5, .slice qa6 qm6 qc6] 29 (by decide))
  have B7 := hid (nextB B6.out A7.out)
  have V7 := hid (P6.out.next A7.out)
  rcases errP_cases hc with ⟨e1, e2⟩ | ⟨e1, e2, e3⟩
  · rw [e1]
    clear e1 e2 P6 V7 X7 Z7
    go_upto_region 10 with fail
    clear A7
    generalize World.alloc w6 _ = w7 at *
    go_wp2_with fail
    go_ret
    exact ⟨rfl, B7.out⟩
  · rw [e1]
    have DE : decide (bytesOf p = bytesOf ((decP hc).getD zP)) = false := by
      rw [e2]
      show decide (bytesOf p = bytesOf (rdP hc)) = false
      rw [e3]
      exact decide_eq_false (fun e => NE.out e.symm)
    have L7 := hid (show (bodyOf ((decP hc).getD zP)).length ≤ 8000000 from by
      rw [e2]
      show (bodyOf (rdP hc)).length ≤ _
      have h1 := bytes_len (rdP hc)
      have h2 : hc.length = n := HL.out
      rw [e3] at h1
      have := N4.out
      omega)
    have KS := hid (code_Same_any _ _ _ p _ (HP.out.next B7.out) V7.out (by have := LB.out; omega) L7.out (T0.out.next B7.out).sm)
    rw [DE] at KS
    clear e1 e2 e3 DE L7 P6 V7
    go_upto_region 10 with fail
    clear A7
    generalize World.alloc w6 _ = w7 at *
    generalize w6.heap.size = zb at *
    have d0 := X7.out.cell 0 _ rfl
    have d1 := X7.out.cell 1 _ rfl
    have d2 := X7.out.cell 2 _ rfl
    have d3 := X7.out.cell 3 _ rfl
    have d4 := X7.out.cell 4 _ rfl
    have d5 := X7.out.cell 5 _ rfl
    have d6 := X7.out.cell 6 _ rfl
    have r0 := Z7.out.cell 0 _ rfl
    have r1 := Z7.out.cell 1 _ rfl
    have r2 := Z7.out.cell 2 _ rfl
    have r3 := Z7.out.cell 3 _ rfl
    have r4 := Z7.out.cell 4 _ rfl
    have r5 := Z7.out.cell 5 _ rfl
    have r6 := Z7.out.cell 6 _ rfl
    go_wp2_with (go_at_call 14; (with_reducible refine Calls.mono KS.out ?_); rintro e w8 ⟨rfl, b8⟩)
    go_ret
    exact ⟨rfl, nextB B7.out b8⟩

end Go.Proofs.YtmfbebocglhbdaaDoor
