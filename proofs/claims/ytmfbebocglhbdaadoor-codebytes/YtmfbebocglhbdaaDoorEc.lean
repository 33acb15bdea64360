/- The walk over the law CodeBytes. -/
import Derived.Test.YtmfbebocglhbdaaDoorDv
import Derived.Test.YtmfbebocglhbdaaDoorEb
import Derived.Test.YtmfbebocglhbdaaDoorCh
import Derived.Deep.DeepCutAuto
namespace Go.Proofs.YtmfbebocglhbdaaDoor
open Go.ChangeShapes Go.WideShapes Go.ChangeAt Go.RowKit Go.Deep Go.Joins
set_option linter.unusedVariables false
set_option linter.unusedSimpArgs false

set_option maxRecDepth 100000 in
theorem instr_of {H : Type} {enc : TypeId × Value → H} {W : World} {base b0 : Nat} {sp : Nat → Bool} {held : Bool} {v : Value} {d : DataW H} {p : List MemPlace} (hv : Value.okWide Tryd.prog W .any b0 36 v)
    (h : DataW.Trod enc Tryd.prog W base sp held 36 v d p) : ∃ i : Int × Int × Int × Int, v = .agg #[.int .i64 i.1, .int .i64 i.2.1, .int .i64 i.2.2.1, .int .i64 i.2.2.2] ∧ cN.ok i := by
  obtain ⟨c0, c1, c2, c3, y0, y1, y2, y3, n, rfl, rfl, rfl, h0, h1, h2, h3⟩ := open_agg4 Tryd.underlying36 (by kernel_rfl) (by kernel_rfl) hv h
  obtain ⟨z0, rfl, o0⟩ := int_of Tryd.underlying3 h0
  obtain ⟨z1, rfl, o1⟩ := int_of Tryd.underlying3 h1
  obtain ⟨z2, rfl, o2⟩ := int_of Tryd.underlying3 h2
  obtain ⟨z3, rfl, o3⟩ := int_of Tryd.underlying3 h3
  exact ⟨(z0, z1, z2, z3), rfl, o0, o1, o2, o3⟩
set_option maxRecDepth 100000 in
set_option maxHeartbeats 16000000 in
theorem bytes_walk (w : World) (hT : Tt w) (v : Value) (p : PP) (hp : Pw w v p) (i : Int × Int × Int × Int) (hi : cN.ok i) :
    Calls Tryd.prog 4 #[v, .agg #[.int .i64 i.1, .int .i64 i.2.1, .int .i64 i.2.2.1, .int .i64 i.2.2.2]] w fun e w' => e = .returned (.bool true) ∧ Below w.heap.size w w' := by
  have HP := hid hp
  obtain ⟨pa0, pm0, pc0, pa1, pm1, pc1, pa2, pm2, pc2, pa3, pm3, pc3, pa4, pm4, pc4, pa5, pm5, pc5, pa6, pm6, pc6, rfl, -⟩ := hp.ex
  have B0 := hid (allocB w (.cells #[.slice pa0 pm0 pc0, .slice pa1 pm1 pc1, .slice pa2 pm2 pc2, .slice pa3 pm3 pc3, .slice pa4 pm4 pc4, .slice pa5 pm5 pc5, .slice pa6 pm6 pc6] 29))
  have B1 := hid (nextB B0.out (allocB _ (.cells #[.int .i64 i.1, .int .i64 i.2.1, .int .i64 i.2.2.1, .int .i64 i.2.2.2] 36)))
  have X1 := hid ((Bx.new w #[.slice pa0 pm0 pc0, .slice pa1 pm1 pc1, .slice pa2 pm2 pc2, .slice pa3 pm3 pc3, .slice pa4 pm4 pc4, .slice pa5 pm5 pc5, .slice pa6 pm6 pc6] 29 (by decide)).next (allocB _ (.cells #[.int .i64 i.1, .int .i64 i.2.1, .int .i64 i.2.2.1, .int .i64 i.2.2.2] 36)))
  have I1 := hid (Bx.new (w.alloc (.cells #[.slice pa0 pm0 pc0, .slice pa1 pm1 pc1, .slice pa2 pm2 pc2, .slice pa3 pm3 pc3, .slice pa4 pm4 pc4, .slice pa5 pm5 pc5, .slice pa6 pm6 pc6] 29)) #[.int .i64 i.1, .int .i64 i.2.1, .int .i64 i.2.2.1, .int .i64 i.2.2.2] 36 (by decide))
  rw [show (w.alloc (.cells #[.slice pa0 pm0 pc0, .slice pa1 pm1 pc1, .slice pa2 pm2 pc2, .slice pa3 pm3 pc3, .slice pa4 pm4 pc4, .slice pa5 pm5 pc5, .slice pa6 pm6 pc6] 29)).heap.size = w.heap.size + 1 by simp] at I1
  have T0 := hid hT
  have HI := hid hi
  clear hp hT hi B0
  go_enter Tryd.func4, Tryd.ntmps4
  go_upto_region 1 with fail
  obtain ⟨iy, hy⟩ : ∃ y, y = w.heap.size + 1 := ⟨_, rfl⟩
  rw [← hy] at I1 ⊢
  obtain ⟨x, hx⟩ : ∃ x, x = w.heap.size := ⟨_, rfl⟩
  rw [← hx] at X1 ⊢
  clear hx hy
  generalize World.alloc (World.alloc w _) _ = w1 at *
  have KA := hid (awake_any w1 (T0.out.next B1.out))
  go_wp2_with fail
  (with_reducible refine Calls.mono KA.out ?_)
  rintro e w2 ⟨rfl, b2⟩
  have B2 := hid (nextB B1.out b2)
  have X2 := hid (X1.out.next b2)
  have I2 := hid (I1.out.next b2)
  have KG := hid (great_any w2 _ p (HP.out.next B2.out))
  clear b2 KA B1 X1 I1
  have d0 := X2.out.cell 0 _ rfl
  have d1 := X2.out.cell 1 _ rfl
  have d2 := X2.out.cell 2 _ rfl
  have d3 := X2.out.cell 3 _ rfl
  have d4 := X2.out.cell 4 _ rfl
  have d5 := X2.out.cell 5 _ rfl
  have d6 := X2.out.cell 6 _ rfl
  go_wp2_with fail
  (with_reducible refine Calls.mono KG.out ?_)
  rintro e w3 h3
  obtain ⟨b, rfl, b3, sm⟩ := h3
  clear d0 d1 d2 d3 d4 d5 d6 KG
  have B3 := hid (nextB B2.out b3)
  have X3 := hid (X2.out.next b3)
  have I3 := hid (I2.out.next b3)
  clear b3 B2 X2 I2
  cases b with
  | true =>
    go_wp2_with fail
    go_ret
    exact ⟨rfl, B3.out⟩
  | false =>
  have SM := hid (sm rfl)
  clear sm
  have OK := hid (HP.out.ok SM.out)
  have LB := hid (small_bytes OK.out SM.out)
  have KE := hid (code_Encode_any w3 _ p (HP.out.next B3.out) (by have := LB.out; omega) (T0.out.next B3.out).sm)
  have d0 := X3.out.cell 0 _ rfl
  have d1 := X3.out.cell 1 _ rfl
  have d2 := X3.out.cell 2 _ rfl
  have d3 := X3.out.cell 3 _ rfl
  have d4 := X3.out.cell 4 _ rfl
  have d5 := X3.out.cell 5 _ rfl
  have d6 := X3.out.cell 6 _ rfl
  go_wp2_with fail
  (with_reducible refine Calls.mono KE.out ?_)
  rintro e w4 ⟨⟨v4, rfl, o4⟩, b4⟩
  clear d0 d1 d2 d3 d4 d5 d6 KE
  have B4 := hid (nextB B3.out b4)
  have X4 := hid (X3.out.next b4)
  have I4 := hid (I3.out.next b4)
  obtain ⟨ga, n, c, hv4, y4⟩ : ∃ a n c, v4 = .slice a n c ∧ By w4 a n c (bytesOf p) := by
    obtain ⟨a, c, e, y, -, -⟩ := o4.by
    exact ⟨a, _, c, e, y⟩
  subst hv4
  have Y4 := hid y4
  have KD := hid (code_Decode_any w4 ga n c (bytesOf p) Y4.out (by have h1 := bytes_len p; have h2 := LB.out; have h3 := y4.len; omega) (T0.out.next B4.out).sm)
  clear b4 B3 X3 I3 y4 o4
  go_wp2_with fail
  (with_reducible refine Calls.mono KD.out ?_)
  rintro e w5 h5
  obtain ⟨v5, rfl, p5, b5⟩ := h5
  rw [(decP_back OK.out).1] at p5
  rw [(decP_back OK.out).2]
  have P5 := hid (show Pw w5 v5 p from p5)
  obtain ⟨qa0, qm0, qc0, qa1, qm1, qc1, qa2, qm2, qc2, qa3, qm3, qc3, qa4, qm4, qc4, qa5, qm5, qc5, qa6, qm6, qc6, rfl, -⟩ := p5.ex
  have A6 := hid (nextB b5 (allocB w5 (.cells #[.slice qa0 qm0 qc0, .slice qa1 qm1 qc1, .slice qa2 qm2 qc2, .slice qa3 qm3 qc3, .slice qa4 qm4 qc4, .slice qa5 qm5 qc5, .slice qa6 qm6 qc6] 29)))
  have B6 := hid (nextB B4.out A6.out)
  have X6 := hid (X4.out.next A6.out)
  have I6 := hid (I4.out.next A6.out)
  have Y6 := hid (Y4.out.below A6.out)
  have P6 := hid (P5.out.next (allocB w5 (.cells #[.slice qa0 qm0 qc0, .slice qa1 qm1 qc1, .slice qa2 qm2 qc2, .slice qa3 qm3 qc3, .slice qa4 qm4 qc4, .slice qa5 qm5 qc5, .slice qa6 qm6 qc6] 29)))
  have Z6 := hid (Bx.new w5 #[.slice qa0 qm0 qc0, .slice qa1 qm1 qc1, .slice qa2 qm2 qc2, .slice qa3 qm3 qc3, .slice qa4 qm4 qc4, .slice qa5 qm5 qc5, .slice qa6 qm6 qc6] 29 (by decide))
  clear p5 b5 KD B4 X4 I4 Y4 P5 A6
  go_upto_region 7 with fail
  generalize World.alloc w5 _ = w6 at *
  generalize w5.heap.size = zb at *
  have HPW := hid (HP.out.next B6.out)
  have TW := hid (T0.out.next B6.out)
  obtain ⟨SB, hSB⟩ : ∃ s, s = strOfNums (bytesOf p) := ⟨_, rfl⟩
  have S6 := hid (show ∀ W, Below w6.heap.size w6 W → (convert 38 9 (.slice ga n c)).run Tryd.prog W = .ok (.string SB) W from fun W hW => by rw [hSB]; exact (Y6.out.below hW).str)
  refine wp_region_held_drew (S := fun W => Below w6.heap.size w6 W) (by kernel_rfl) (Below.refl _ _).drew (fun hHeld => ?_)
  have DD := hid (show Below w6.heap.size w6 w6.drew from (Below.refl _ _).drew)
  generalize w6.drew = wz at *
  refine wpAnyH_strong (S' := fun W => Below wz.heap.size wz W) (fun W hW => nextB hHeld hW) _ _ _ _ ?_
  clear hHeld
  have hHeld := Below.refl wz.heap.size wz
  refine tk 0 (.slice ga n c) 19 rfl rfl rfl (by kernel_rfl) (fun _ _ _ h => h) (by rfl) hHeld ?_ ?_
  · (intro W hW; (try dsimp only at hW); go_simp)
  try simp only [Act.put, List.setIfInBounds_toArray, List.set_cons_zero, List.set_cons_succ]
  refine tk 1 (.string SB) 20 rfl rfl rfl (by kernel_rfl) (fun _ _ _ h => h) (by rfl) hHeld ?_ ?_
  · (intro W hW; (try dsimp only at hW); have q0 := S6.out W (nextB DD.out hW); go_simp)
  try simp only [Act.put, List.setIfInBounds_toArray, List.set_cons_zero, List.set_cons_succ]
  refine tk 2 (.agg #[.slice pa0 pm0 pc0, .slice pa1 pm1 pc1, .slice pa2 pm2 pc2, .slice pa3 pm3 pc3, .slice pa4 pm4 pc4, .slice pa5 pm5 pc5, .slice pa6 pm6 pc6]) 21 rfl rfl rfl (by kernel_rfl) (fun _ _ _ h => h) (by rfl) hHeld ?_ ?_
  · (intro W hW; (try dsimp only at hW); have x0 := (X6.out.next (nextB DD.out hW)).cell 0 _ rfl; have x1 := (X6.out.next (nextB DD.out hW)).cell 1 _ rfl; have x2 := (X6.out.next (nextB DD.out hW)).cell 2 _ rfl; have x3 := (X6.out.next (nextB DD.out hW)).cell 3 _ rfl; have x4 := (X6.out.next (nextB DD.out hW)).cell 4 _ rfl; have x5 := (X6.out.next (nextB DD.out hW)).cell 5 _ rfl; have x6 := (X6.out.next (nextB DD.out hW)).cell 6 _ rfl; go_simp)
  try simp only [Act.put, List.setIfInBounds_toArray, List.set_cons_zero, List.set_cons_succ]
  refine wpAnyH_ready (rs := [3]) (by kernel_rfl) (by simp) ?_
  refine cons2 rfl rfl (fun K9 hK => ?_)
  go_simp
  refine Calls.mono (ref14_Encode_any wz _ p (HPW.out.next DD.out) (by have := LB.out; omega)) ?_
  rintro e w7 ⟨⟨vw7, rfl, ow7⟩, bw7⟩
  obtain ⟨ew7, fw7, gw7, rfl, yw7⟩ : ∃ a n c, vw7 = .slice a n c ∧ By w7 a n c (bytesOf p) := by
    obtain ⟨a, c, e, y, -, -⟩ := ow7.by
    exact ⟨a, _, c, e, y⟩
  have Cw7 := hid (show ∀ W, Below w7.heap.size w7 W → (convert 38 9 (.slice ew7 fw7 gw7)).run Tryd.prog W = .ok (.string SB) W from fun W hW => by rw [hSB]; exact (yw7.below hW).str)
  have BB := hid bw7
  replace DD := hid (nextB DD.out bw7)
  clear ow7 bw7 yw7
  go_wp2_with fail
  refine hK.out _ _ BB.out (fun hX => ?_)
  clear hK K9 hHeld
  have hHeld := hX
  clear hX
  try simp only [Act.put, List.setIfInBounds_toArray, List.set_cons_zero, List.set_cons_succ]
  refine wpAnyH_strong (S' := fun W => Below w7.heap.size w7 W) (fun W hW => nextB hHeld hW) _ _ _ _ ?_
  clear hHeld
  have hHeld := Below.refl w7.heap.size w7
  clear BB
  refine tk 4 (.string SB) 23 rfl rfl rfl (by kernel_rfl) (fun _ _ _ h => h) (by rfl) hHeld ?_ ?_
  · (intro W hW; (try dsimp only at hW); have q0 := Cw7.out W hW; go_simp)
  try simp only [Act.put, List.setIfInBounds_toArray, List.set_cons_zero, List.set_cons_succ]
  refine tk 5 (.bool true) 24 rfl rfl rfl (by kernel_rfl) (fun _ _ _ h => h) (by rfl) hHeld ?_ ?_
  · (intro W hW; (try dsimp only at hW); go_simp)
  try simp only [Act.put, List.setIfInBounds_toArray, List.set_cons_zero, List.set_cons_succ]
  refine tk 6 (.bool true) 25 rfl rfl rfl (by kernel_rfl) (fun _ _ _ h => h) (by rfl) hHeld ?_ ?_
  · (intro W hW; (try dsimp only at hW); go_simp)
  try simp only [Act.put, List.setIfInBounds_toArray, List.set_cons_zero, List.set_cons_succ]
  refine tk 7 (.int .i64 0) 26 rfl rfl rfl (by kernel_rfl) (fun _ _ _ h => h) (by rfl) hHeld ?_ ?_
  · (intro W hW; (try dsimp only at hW); go_simp)
  try simp only [Act.put, List.setIfInBounds_toArray, List.set_cons_zero, List.set_cons_succ]
  refine tk 8 (.bool true) 27 rfl rfl rfl (by kernel_rfl) (fun _ _ _ h => h) (by rfl) hHeld ?_ ?_
  · (intro W hW; (try dsimp only at hW); go_simp)
  try simp only [Act.put, List.setIfInBounds_toArray, List.set_cons_zero, List.set_cons_succ]
  refine tk 9 (.bool true) 28 rfl rfl rfl (by kernel_rfl) (fun _ _ _ h => h) (by rfl) hHeld ?_ ?_
  · (intro W hW; (try dsimp only at hW); go_simp)
  try simp only [Act.put, List.setIfInBounds_toArray, List.set_cons_zero, List.set_cons_succ]
  refine tk 10 (.bool true) 29 rfl rfl rfl (by kernel_rfl) (fun _ _ _ h => h) (by rfl) hHeld ?_ ?_
  · (intro W hW; (try dsimp only at hW); go_simp)
  try simp only [Act.put, List.setIfInBounds_toArray, List.set_cons_zero, List.set_cons_succ]
  refine tk 11 (.agg #[.slice qa0 qm0 qc0, .slice qa1 qm1 qc1, .slice qa2 qm2 qc2, .slice qa3 qm3 qc3, .slice qa4 qm4 qc4, .slice qa5 qm5 qc5, .slice qa6 qm6 qc6]) 30 rfl rfl rfl (by kernel_rfl) (fun _ _ _ h => h) (by rfl) hHeld ?_ ?_
  · (intro W hW; (try dsimp only at hW); have x0 := (Z6.out.next (nextB DD.out hW)).cell 0 _ rfl; have x1 := (Z6.out.next (nextB DD.out hW)).cell 1 _ rfl; have x2 := (Z6.out.next (nextB DD.out hW)).cell 2 _ rfl; have x3 := (Z6.out.next (nextB DD.out hW)).cell 3 _ rfl; have x4 := (Z6.out.next (nextB DD.out hW)).cell 4 _ rfl; have x5 := (Z6.out.next (nextB DD.out hW)).cell 5 _ rfl; have x6 := (Z6.out.next (nextB DD.out hW)).cell 6 _ rfl; go_simp)
  try simp only [Act.put, List.setIfInBounds_toArray, List.set_cons_zero, List.set_cons_succ]
  refine tk 14 (.slice ga n c) 33 rfl rfl rfl (by kernel_rfl) (fun _ _ _ h => h) (by rfl) hHeld ?_ ?_
  · (intro W hW; (try dsimp only at hW); go_simp)
  try simp only [Act.put, List.setIfInBounds_toArray, List.set_cons_zero, List.set_cons_succ]
  refine tk 15 (.string SB) 34 rfl rfl rfl (by kernel_rfl) (fun _ _ _ h => h) (by rfl) hHeld ?_ ?_
  · (intro W hW; (try dsimp only at hW); have q0 := S6.out W (nextB DD.out hW); go_simp)
  try simp only [Act.put, List.setIfInBounds_toArray, List.set_cons_zero, List.set_cons_succ]
  refine wpAnyH_ready (rs := [12]) (by kernel_rfl) (by simp) ?_
  refine cons2 rfl rfl (fun K9 hK => ?_)
  go_simp
  refine Calls.mono (ref14_Encode_any w7 _ p (P6.out.next DD.out) (by have := LB.out; omega)) ?_
  rintro e w8 ⟨⟨vw8, rfl, ow8⟩, bw8⟩
  obtain ⟨ew8, fw8, gw8, rfl, yw8⟩ : ∃ a n c, vw8 = .slice a n c ∧ By w8 a n c (bytesOf p) := by
    obtain ⟨a, c, e, y, -, -⟩ := ow8.by
    exact ⟨a, _, c, e, y⟩
  have Cw8 := hid (show ∀ W, Below w8.heap.size w8 W → (convert 38 9 (.slice ew8 fw8 gw8)).run Tryd.prog W = .ok (.string SB) W from fun W hW => by rw [hSB]; exact (yw8.below hW).str)
  have BB := hid bw8
  replace DD := hid (nextB DD.out bw8)
  clear ow8 bw8 yw8
  go_wp2_with fail
  refine hK.out _ _ BB.out (fun hX => ?_)
  clear hK K9 hHeld
  have hHeld := hX
  clear hX
  try simp only [Act.put, List.setIfInBounds_toArray, List.set_cons_zero, List.set_cons_succ]
  refine wpAnyH_strong (S' := fun W => Below w8.heap.size w8 W) (fun W hW => nextB hHeld hW) _ _ _ _ ?_
  clear hHeld
  have hHeld := Below.refl w8.heap.size w8
  clear BB
  refine tk 13 (.string SB) 32 rfl rfl rfl (by kernel_rfl) (fun _ _ _ h => h) (by rfl) hHeld ?_ ?_
  · (intro W hW; (try dsimp only at hW); have q0 := Cw8.out W hW; go_simp)
  try simp only [Act.put, List.setIfInBounds_toArray, List.set_cons_zero, List.set_cons_succ]
  refine tk 16 (.bool true) 35 rfl rfl rfl (by kernel_rfl) (fun _ _ _ h => h) (by rfl) hHeld ?_ ?_
  · (intro W hW; (try dsimp only at hW); go_simp)
  try simp only [Act.put, List.setIfInBounds_toArray, List.set_cons_zero, List.set_cons_succ]
  refine tk 17 (.bool true) 36 rfl rfl rfl (by kernel_rfl) (fun _ _ _ h => h) (by rfl) hHeld ?_ ?_
  · (intro W hW; (try dsimp only at hW); go_simp)
  try simp only [Act.put, List.setIfInBounds_toArray, List.set_cons_zero, List.set_cons_succ]
  refine tk 18 (.bool true) 37 rfl rfl rfl (by kernel_rfl) (fun _ _ _ h => h) (by rfl) hHeld ?_ ?_
  · (intro W hW; (try dsimp only at hW); go_simp)
  try simp only [Act.put, List.setIfInBounds_toArray, List.set_cons_zero, List.set_cons_succ]
  refine tk 19 (.agg #[.slice pa0 pm0 pc0, .slice pa1 pm1 pc1, .slice pa2 pm2 pc2, .slice pa3 pm3 pc3, .slice pa4 pm4 pc4, .slice pa5 pm5 pc5, .slice pa6 pm6 pc6]) 38 rfl rfl rfl (by kernel_rfl) (fun _ _ _ h => h) (by rfl) hHeld ?_ ?_
  · (intro W hW; (try dsimp only at hW); have x0 := (X6.out.next (nextB DD.out hW)).cell 0 _ rfl; have x1 := (X6.out.next (nextB DD.out hW)).cell 1 _ rfl; have x2 := (X6.out.next (nextB DD.out hW)).cell 2 _ rfl; have x3 := (X6.out.next (nextB DD.out hW)).cell 3 _ rfl; have x4 := (X6.out.next (nextB DD.out hW)).cell 4 _ rfl; have x5 := (X6.out.next (nextB DD.out hW)).cell 5 _ rfl; have x6 := (X6.out.next (nextB DD.out hW)).cell 6 _ rfl; go_simp)
  try simp only [Act.put, List.setIfInBounds_toArray, List.set_cons_zero, List.set_cons_succ]
  refine tk 20 (.agg #[.slice qa0 qm0 qc0, .slice qa1 qm1 qc1, .slice qa2 qm2 qc2, .slice qa3 qm3 qc3, .slice qa4 qm4 qc4, .slice qa5 qm5 qc5, .slice qa6 qm6 qc6]) 39 rfl rfl rfl (by kernel_rfl) (fun _ _ _ h => h) (by rfl) hHeld ?_ ?_
  · (intro W hW; (try dsimp only at hW); have x0 := (Z6.out.next (nextB DD.out hW)).cell 0 _ rfl; have x1 := (Z6.out.next (nextB DD.out hW)).cell 1 _ rfl; have x2 := (Z6.out.next (nextB DD.out hW)).cell 2 _ rfl; have x3 := (Z6.out.next (nextB DD.out hW)).cell 3 _ rfl; have x4 := (Z6.out.next (nextB DD.out hW)).cell 4 _ rfl; have x5 := (Z6.out.next (nextB DD.out hW)).cell 5 _ rfl; have x6 := (Z6.out.next (nextB DD.out hW)).cell 6 _ rfl; go_simp)
  try simp only [Act.put, List.setIfInBounds_toArray, List.set_cons_zero, List.set_cons_succ]
  refine wpAnyH_ready (rs := [21]) (by kernel_rfl) (by simp) ?_
  refine cons2 rfl rfl (fun K9 hK => ?_)
  go_simp
  refine Calls.mono (code_Same_any w8 _ _ p p (HPW.out.next DD.out) (P6.out.next DD.out) (by have := LB.out; omega) (by have := LB.out; omega) (TW.out.next DD.out).sm) ?_
  rintro e w9 ⟨rfl, bw9⟩
  rw [show decide (bytesOf p = bytesOf p) = true by simp]
  have BB := hid bw9
  replace DD := hid (nextB DD.out bw9)
  clear bw9
  go_wp2_with fail
  refine hK.out _ _ BB.out (fun hX => ?_)
  clear hK K9 hHeld
  have hHeld := hX
  clear hX
  try simp only [Act.put, List.setIfInBounds_toArray, List.set_cons_zero, List.set_cons_succ]
  refine wpAnyH_strong (S' := fun W => Below w9.heap.size w9 W) (fun W hW => nextB hHeld hW) _ _ _ _ ?_
  clear hHeld
  have hHeld := Below.refl w9.heap.size w9
  clear BB
  refine tk 22 (.bool true) 41 rfl rfl rfl (by kernel_rfl) (fun _ _ _ h => h) (by rfl) hHeld ?_ ?_
  · (intro W hW; (try dsimp only at hW); go_simp)
  try simp only [Act.put, List.setIfInBounds_toArray, List.set_cons_zero, List.set_cons_succ]
  refine tk 23 (.bool true) 42 rfl rfl rfl (by kernel_rfl) (fun _ _ _ h => h) (by rfl) hHeld ?_ ?_
  · (intro W hW; (try dsimp only at hW); go_simp)
  try simp only [Act.put, List.setIfInBounds_toArray, List.set_cons_zero, List.set_cons_succ]
  refine tk 24 (.pointer (some ⟨iy, 0, none⟩)) 43 rfl rfl rfl (by kernel_rfl) (fun _ _ _ h => h) (by rfl) hHeld ?_ ?_
  · (intro W hW; (try dsimp only at hW); go_simp)
  try simp only [Act.put, List.setIfInBounds_toArray, List.set_cons_zero, List.set_cons_succ]
  refine tk 25 (.int .i64 i.1) 44 rfl rfl rfl (by kernel_rfl) (fun _ _ _ h => h) (by rfl) hHeld ?_ ?_
  · (intro W hW; (try dsimp only at hW); have x0 := (I6.out.next (nextB DD.out hW)).cell 0 _ rfl; go_simp)
  try simp only [Act.put, List.setIfInBounds_toArray, List.set_cons_zero, List.set_cons_succ]
  refine tk 27 (.pointer (some ⟨iy, 0, none⟩)) 46 rfl rfl rfl (by kernel_rfl) (fun _ _ _ h => h) (by rfl) hHeld ?_ ?_
  · (intro W hW; (try dsimp only at hW); go_simp)
  try simp only [Act.put, List.setIfInBounds_toArray, List.set_cons_zero, List.set_cons_succ]
  refine tk 28 (.int .i64 i.1) 47 rfl rfl rfl (by kernel_rfl) (fun _ _ _ h => h) (by rfl) hHeld ?_ ?_
  · (intro W hW; (try dsimp only at hW); have x0 := (I6.out.next (nextB DD.out hW)).cell 0 _ rfl; go_simp)
  try simp only [Act.put, List.setIfInBounds_toArray, List.set_cons_zero, List.set_cons_succ]
  have KN1 := hid (code_Name_any i.1 w9 (TW.out.next DD.out).rt)
  have KN2 := hid (fun W => ref14_Name_any i.1 W)
  generalize opN i.1 = nm at *
  refine wpAnyH_ready (rs := [26]) (by kernel_rfl) (by simp) ?_
  refine cons2 rfl rfl (fun K9 hK => ?_)
  go_simp
  refine Calls.mono (KN1.out) ?_
  rintro e wa ⟨rfl, bwa⟩
  have BB := hid bwa
  replace DD := hid (nextB DD.out bwa)
  clear bwa
  go_wp2_with fail
  refine hK.out _ _ BB.out (fun hX => ?_)
  clear hK K9 hHeld
  have hHeld := hX
  clear hX
  try simp only [Act.put, List.setIfInBounds_toArray, List.set_cons_zero, List.set_cons_succ]
  refine wpAnyH_strong (S' := fun W => Below wa.heap.size wa W) (fun W hW => nextB hHeld hW) _ _ _ _ ?_
  clear hHeld
  have hHeld := Below.refl wa.heap.size wa
  clear BB
  refine wpAnyH_ready (rs := [29]) (by kernel_rfl) (by simp) ?_
  refine cons2 rfl rfl (fun K9 hK => ?_)
  go_simp
  refine Calls.mono (KN2.out wa) ?_
  rintro e wb ⟨rfl, bwb⟩
  have BB := hid bwb
  replace DD := hid (nextB DD.out bwb)
  clear bwb
  go_wp2_with fail
  refine hK.out _ _ BB.out (fun hX => ?_)
  clear hK K9 hHeld
  have hHeld := hX
  clear hX
  try simp only [Act.put, List.setIfInBounds_toArray, List.set_cons_zero, List.set_cons_succ]
  refine wpAnyH_strong (S' := fun W => Below wb.heap.size wb W) (fun W hW => nextB hHeld hW) _ _ _ _ ?_
  clear hHeld
  have hHeld := Below.refl wb.heap.size wb
  clear BB
  refine tk 30 (.bool true) 49 rfl rfl rfl (by kernel_rfl) (fun _ _ _ h => h) (by rfl) hHeld ?_ ?_
  · (intro W hW; (try dsimp only at hW); go_simp)
  try simp only [Act.put, List.setIfInBounds_toArray, List.set_cons_zero, List.set_cons_succ]
  refine tk 31 (.bool true) 50 rfl rfl rfl (by kernel_rfl) (fun _ _ _ h => h) (by rfl) hHeld ?_ ?_
  · (intro W hW; (try dsimp only at hW); go_simp)
  try simp only [Act.put, List.setIfInBounds_toArray, List.set_cons_zero, List.set_cons_succ]
  refine tk 32 (.bool true) 51 rfl rfl rfl (by kernel_rfl) (fun _ _ _ h => h) (by rfl) hHeld ?_ ?_
  · (intro W hW; (try dsimp only at hW); go_simp)
  try simp only [Act.put, List.setIfInBounds_toArray, List.set_cons_zero, List.set_cons_succ]
  refine tk 33 (.agg #[.int .i64 i.1, .int .i64 i.2.1, .int .i64 i.2.2.1, .int .i64 i.2.2.2]) 52 rfl rfl rfl (by kernel_rfl) (fun _ _ _ h => h) (by rfl) hHeld ?_ ?_
  · (intro W hW; (try dsimp only at hW); have x0 := (I6.out.next (nextB DD.out hW)).cell 0 _ rfl; have x1 := (I6.out.next (nextB DD.out hW)).cell 1 _ rfl; have x2 := (I6.out.next (nextB DD.out hW)).cell 2 _ rfl; have x3 := (I6.out.next (nextB DD.out hW)).cell 3 _ rfl; go_simp)
  try simp only [Act.put, List.setIfInBounds_toArray, List.set_cons_zero, List.set_cons_succ]
  refine tk 35 (.agg #[.int .i64 i.1, .int .i64 i.2.1, .int .i64 i.2.2.1, .int .i64 i.2.2.2]) 54 rfl rfl rfl (by kernel_rfl) (fun _ _ _ h => h) (by rfl) hHeld ?_ ?_
  · (intro W hW; (try dsimp only at hW); have x0 := (I6.out.next (nextB DD.out hW)).cell 0 _ rfl; have x1 := (I6.out.next (nextB DD.out hW)).cell 1 _ rfl; have x2 := (I6.out.next (nextB DD.out hW)).cell 2 _ rfl; have x3 := (I6.out.next (nextB DD.out hW)).cell 3 _ rfl; go_simp)
  try simp only [Act.put, List.setIfInBounds_toArray, List.set_cons_zero, List.set_cons_succ]
  have KS1 := hid (code_Show_any i.1 i.2.1 i.2.2.1 i.2.2.2 wb (TW.out.next DD.out).rt (TW.out.next DD.out).pw HI.out.2.1 HI.out.2.2.1 HI.out.2.2.2)
  have KS2 := hid (fun W => ref14_Show_any i.1 i.2.1 i.2.2.1 i.2.2.2 W HI.out.2.1 HI.out.2.2.1 HI.out.2.2.2)
  generalize shP i.1 i.2.1 i.2.2.1 i.2.2.2 = sh at *
  refine wpAnyH_ready (rs := [34]) (by kernel_rfl) (by simp) ?_
  refine cons2 rfl rfl (fun K9 hK => ?_)
  go_simp
  refine Calls.mono (KS1.out) ?_
  rintro e wc ⟨rfl, bwc⟩
  have BB := hid bwc
  replace DD := hid (nextB DD.out bwc)
  clear bwc
  go_wp2_with fail
  refine hK.out _ _ BB.out (fun hX => ?_)
  clear hK K9 hHeld
  have hHeld := hX
  clear hX
  try simp only [Act.put, List.setIfInBounds_toArray, List.set_cons_zero, List.set_cons_succ]
  refine wpAnyH_strong (S' := fun W => Below wc.heap.size wc W) (fun W hW => nextB hHeld hW) _ _ _ _ ?_
  clear hHeld
  have hHeld := Below.refl wc.heap.size wc
  clear BB
  refine wpAnyH_ready (rs := [36]) (by kernel_rfl) (by simp) ?_
  refine cons2 rfl rfl (fun K9 hK => ?_)
  go_simp
  refine Calls.mono (KS2.out wc) ?_
  rintro e wd ⟨rfl, bwd⟩
  have BB := hid bwd
  replace DD := hid (nextB DD.out bwd)
  clear bwd
  go_wp2_with fail
  refine hK.out _ _ BB.out (fun hX => ?_)
  clear hK K9 hHeld
  have hHeld := hX
  clear hX
  try simp only [Act.put, List.setIfInBounds_toArray, List.set_cons_zero, List.set_cons_succ]
  refine wpAnyH_strong (S' := fun W => Below wd.heap.size wd W) (fun W hW => nextB hHeld hW) _ _ _ _ ?_
  clear hHeld
  have hHeld := Below.refl wd.heap.size wd
  clear BB
  refine tk 37 (.bool true) 56 rfl rfl rfl (by kernel_rfl) (fun _ _ _ h => h) (by rfl) hHeld ?_ ?_
  · (intro W hW; (try dsimp only at hW); go_simp)
  try simp only [Act.put, List.setIfInBounds_toArray, List.set_cons_zero, List.set_cons_succ]
  refine tk 38 (.bool true) 57 rfl rfl rfl (by kernel_rfl) (fun _ _ _ h => h) (by rfl) hHeld ?_ ?_
  · (intro W hW; (try dsimp only at hW); go_simp)
  try simp only [Act.put, List.setIfInBounds_toArray, List.set_cons_zero, List.set_cons_succ]
  refine tk 39 (.bool true) 4 rfl rfl rfl (by kernel_rfl) (fun _ _ _ h => h) (by rfl) hHeld ?_ ?_
  · (intro W hW; (try dsimp only at hW); go_simp)
  try simp only [Act.put, List.setIfInBounds_toArray, List.set_cons_zero, List.set_cons_succ]
  refine wpAnyH_done (by kernel_rfl) ?_ _
  go_wp2_with fail
  go_ret
  exact ⟨rfl, nextB B6.out DD.out⟩

end Go.Proofs.YtmfbebocglhbdaaDoor
