/- The walk over the law CodeReads. -/
import Derived.Test.YtcmifdnndckpcaaDoorDv
import Derived.Test.YtcmifdnndckpcaaDoorEf
import Derived.Deep.DeepCutAuto
namespace Go.Proofs.YtcmifdnndckpcaaDoor
open Go.ChangeShapes Go.WideShapes Go.ChangeAt Go.RowKit Go.Deep Go.Joins
set_option linter.unusedVariables false
set_option linter.unusedSimpArgs false

theorem by_of {H : Type} {enc : TypeId × Value → H} {W : World} {base fuel : Nat} {sp : Nat → Bool} {held : Bool} {a : Option Addr} {len cap : Nat} {x : DataW H × List MemPlace}
    (h : DataW.trod enc Tryd.prog W base sp held fuel 38 (Value.slice a len cap).cells.toList = some x) : ∃ zs, By W a len cap zs := by
  rcases open_ints Tryd.underlying38 Tryd.underlying5 (by kernel_rfl) h with ⟨hcs, _⟩ | ⟨x, l, c, zs, hcs, _, hl, hm, hz, _, hcell, hwz⟩
  · simp [Value.cells] at hcs
    obtain ⟨rfl, rfl, rfl⟩ := hcs
    exact ⟨[], By.empty W⟩
  · simp [Value.cells] at hcs
    obtain ⟨rfl, rfl, rfl⟩ := hcs
    have hlz : len ≤ zs.length := by rw [hz]; split <;> omega
    obtain ⟨b, off, spot⟩ := x
    have hspot : 0 < len → spot = none := fun p => by
      have hc := hcell 0 (by omega)
      simpa [Addr.add] using World.cell?_spot hc
    refine ⟨zs.take len, by simp; omega, hl, hm, fun e => by simp at e, ⟨b, off, fun p => by rw [hspot p], fun i hi => ?_⟩, fun z hz => ?_⟩
    · obtain rfl := hspot (by omega)
      have := hcell i (by omega)
      rw [Addr.add_mid] at this
      rw [this]
      have e : (zs.take len).getD i 0 = zs.getD i 0 := by simp [List.getD, hi]
      rw [e]
    · have := hwz z (List.mem_of_mem_take hz)
      simp [Lit.wf, IntKind.min, IntKind.max, IntKind.signed, IntKind.bits] at this
      omega
theorem refP_some {bs : List Int} {p : PP} (h : refP bs = some p) : bytesOf p = bs ∧ p = (rdQ bs).1 := by
  unfold refP at h
  split at h
  · rename_i c
    injection h with h
    subst h
    exact ⟨c.2.2.2.2, rfl⟩
  · cases h
theorem zP_len : (bodyOf zP).length ≤ 8000000 := Nat.le_trans zero_len (by decide)
theorem dec_len {bs : List Int} (h : Bys bs) (hn : bs.length ≤ 700000) : (bodyOf ((decP bs).getD zP)).length ≤ 8000000 := by
  rw [← refP_decP h]
  cases e : refP bs with
  | none => exact zP_len
  | some p =>
    rw [show (some p).getD zP = p from rfl, (refP_some e).2]
    exact rdQ_len h hn
set_option maxRecDepth 100000 in
set_option maxHeartbeats 16000000 in
theorem reads_walk (w : World) (hT : Tt w) (a : Option Addr) (n c : Nat) (bs : List Int) (h : By w a n c bs) :
    Calls Tryd.prog 5 #[.slice a n c] w fun e w' => e = .returned (.bool true) ∧ Below w.heap.size w w' := by
  have T0 := hid hT
  have Y0 := hid h
  have LN := hid h.len
  have FT := hid h.fits
  clear h hT
  go_enter Tryd.func5, Tryd.ntmps5
  have KA := hid (awake_any w T0.out)
  go_wp2_with fail
  (with_reducible refine Calls.mono KA.out ?_)
  rintro e w2 ⟨rfl, b2⟩
  have B2 := hid b2
  have Y2 := hid (Y0.out.below b2)
  clear b2 KA
  by_cases q : n ≤ 3000
  case neg =>
    have q' : ¬ (n : Int) ≤ 3000 := by omega
    have q2 : (n : Int) > 3000 := by omega
    go_wp2_with fail
    go_ret
    exact ⟨rfl, B2.out⟩
  have q' : ¬ (n : Int) > 3000 := by omega
  go_wp2_with (at_builtin; refine wpList_append_by rfl (.tmp 13) (.tmp 14) rfl w2.heap.size _ [] rfl (own_empty w2) a n c bs rfl (Y2.out.below (allocB w2 _)) (by simp; omega) (by simp) ?_; intro v1 w1 o1 g1; rw [List.nil_append] at o1; obtain ⟨a1, c1, rfl, y1, s1, hh1⟩ := o1.by; have B1 := hid (show Below w2.heap.size w2 w1 from (allocB w2 _).grown g1 (by simp) (fun k hk => ((own_empty w2).row.lt k hk).1)); have Y1 := hid y1; clear y1 s1 hh1 o1 g1)
  have B3 := hid (nextB B2.out B1.out)
  have KD := hid (code_Decode_any w1 a1 bs.length c1 bs Y1.out (by have := LN.out; omega) (T0.out.next B3.out).sm)
  (with_reducible refine Calls.mono KD.out ?_)
  rintro e w5 h5
  obtain ⟨v5, rfl, p5, b5⟩ := h5
  have P5 := hid p5
  obtain ⟨pa0, pm0, pc0, pa1, pm1, pc1, pa2, pm2, pc2, pa3, pm3, pc3, pa4, pm4, pc4, pa5, pm5, pc5, pa6, pm6, pc6, rfl, -⟩ := p5.ex
  have A6 := hid (nextB b5 (allocB w5 (.cells #[.slice pa0 pm0 pc0, .slice pa1 pm1 pc1, .slice pa2 pm2 pc2, .slice pa3 pm3 pc3, .slice pa4 pm4 pc4, .slice pa5 pm5 pc5, .slice pa6 pm6 pc6] 29)))
  have B6 := hid (nextB B3.out A6.out)
  have P6 := hid (P5.out.next (allocB w5 (.cells #[.slice pa0 pm0 pc0, .slice pa1 pm1 pc1, .slice pa2 pm2 pc2, .slice pa3 pm3 pc3, .slice pa4 pm4 pc4, .slice pa5 pm5 pc5, .slice pa6 pm6 pc6] 29)))
  have X6 := hid (Bx.new w5 #[.slice pa0 pm0 pc0, .slice pa1 pm1 pc1, .slice pa2 pm2 pc2, .slice pa3 pm3 pc3, .slice pa4 pm4 pc4, .slice pa5 pm5 pc5, .slice pa6 pm6 pc6] 29 (by decide))
  have Y6 := hid (Y0.out.below B6.out)
  clear p5 b5 KD A6 B3 P5 B1 B2 Y1 Y2
  go_upto_region 6 with fail
  generalize World.alloc w5 _ = w6 at *
  generalize w5.heap.size = xb at *
  have KR := hid (ref14_Decode_any w6 a n c bs Y6.out q)
  go_wp2_with fail
  (with_reducible refine Calls.mono KR.out ?_)
  rintro e w7 h7
  obtain ⟨v7, rfl, p7, b7⟩ := h7
  have P7 := hid p7
  obtain ⟨qa0, qm0, qc0, qa1, qm1, qc1, qa2, qm2, qc2, qa3, qm3, qc3, qa4, qm4, qc4, qa5, qm5, qc5, qa6, qm6, qc6, rfl, -⟩ := p7.ex
  have A8 := hid (nextB b7 (allocB w7 (.cells #[.slice qa0 qm0 qc0, .slice qa1 qm1 qc1, .slice qa2 qm2 qc2, .slice qa3 qm3 qc3, .slice qa4 qm4 qc4, .slice qa5 qm5 qc5, .slice qa6 qm6 qc6] 29)))
  have B8 := hid (nextB B6.out A8.out)
  have P8 := hid (P7.out.next (allocB w7 (.cells #[.slice qa0 qm0 qc0, .slice qa1 qm1 qc1, .slice qa2 qm2 qc2, .slice qa3 qm3 qc3, .slice qa4 qm4 qc4, .slice qa5 qm5 qc5, .slice qa6 qm6 qc6] 29)))
  have X8 := hid (Bx.new w7 #[.slice qa0 qm0 qc0, .slice qa1 qm1 qc1, .slice qa2 qm2 qc2, .slice qa3 qm3 qc3, .slice qa4 qm4 qc4, .slice qa5 qm5 qc5, .slice qa6 qm6 qc6] 29 (by decide))
  have O8 := hid (P6.out.next A8.out)
  have Z8 := hid (X6.out.next A8.out)
  have Y8 := hid (Y6.out.below A8.out)
  clear p7 b7 KR A8 B6 P7 P6 X6 Y6 Y0
  go_upto_region 7 with fail
  generalize World.alloc w7 _ = w8 at *
  generalize w7.heap.size = yb at *
  have RD := hid (refP_decP Y8.out.ok)
  rw [RD.out] at P8 ⊢
  have LB := hid (dec_len Y8.out.ok (by have := LN.out; omega))
  have SM := hid (fun p => refP_some (bs := bs) (p := p))
  rw [RD.out] at SM
  obtain ⟨SB, hSB⟩ : ∃ s, s = strOfNums bs := ⟨_, rfl⟩
  have SY := hid (show ∀ W, Below w8.heap.size w8 W → (convert 38 9 (.slice a n c)).run Tryd.prog W = .ok (.string SB) W from fun W hW => by rw [hSB]; exact (Y8.out.below hW).str)
  have HB := hid hSB
  clear hSB Y8 RD
  have EE := hid (show errP bs = match decP bs with | some _ => 0 | none => 3 from rfl)
  have TW := hid (T0.out.next B8.out)
  cases ed : decP bs with
  | none =>
    rw [show errP bs = 3 from by unfold errP; rw [ed]]
    rw [ed] at P8 O8 LB
    obtain ⟨pp, hpp⟩ : ∃ p, p = (none : Option PP).getD zP := ⟨_, rfl⟩
    rw [← hpp] at P8 O8 LB
    clear EE SM ed hpp
    obtain ⟨SP, hSP⟩ : ∃ s, s = strOfNums (bytesOf pp) := ⟨_, rfl⟩
    have HP := hid hSP
    clear hSP
    refine wp_region_held_drew (S := fun W => Below w8.heap.size w8 W) (by kernel_rfl) (Below.refl _ _).drew (fun hHeld => ?_)
    have DD := hid (show Below w8.heap.size w8 w8.drew from (Below.refl _ _).drew)
    generalize w8.drew = wz at *
    refine wpAnyH_strong (S' := fun W => Below wz.heap.size wz W) (fun W hW => nextB hHeld hW) _ _ _ _ ?_
    clear hHeld
    have hHeld := Below.refl wz.heap.size wz
    refine tk 0 (.bool false) 24 rfl rfl rfl (by kernel_rfl) (fun _ _ _ h => h) (by rfl) hHeld ?_ ?_
    · (intro W hW; (try dsimp only at hW); go_simp)
    try simp only [Act.put, List.setIfInBounds_toArray, List.set_cons_zero, List.set_cons_succ]
    refine tk 1 (.int .i64 3) 25 rfl rfl rfl (by kernel_rfl) (fun _ _ _ h => h) (by rfl) hHeld ?_ ?_
    · (intro W hW; (try dsimp only at hW); go_simp)
    try simp only [Act.put, List.setIfInBounds_toArray, List.set_cons_zero, List.set_cons_succ]
    refine tk 2 (.bool false) 26 rfl rfl rfl (by kernel_rfl) (fun _ _ _ h => h) (by rfl) hHeld ?_ ?_
    · (intro W hW; (try dsimp only at hW); go_simp)
    try simp only [Act.put, List.setIfInBounds_toArray, List.set_cons_zero, List.set_cons_succ]
    refine tk 3 (.bool true) 27 rfl rfl rfl (by kernel_rfl) (fun _ _ _ h => h) (by rfl) hHeld ?_ ?_
    · (intro W hW; (try dsimp only at hW); go_simp)
    try simp only [Act.put, List.setIfInBounds_toArray, List.set_cons_zero, List.set_cons_succ]
    refine tk 4 (.bool true) 28 rfl rfl rfl (by kernel_rfl) (fun _ _ _ h => h) (by rfl) hHeld ?_ ?_
    · (intro W hW; (try dsimp only at hW); go_simp)
    try simp only [Act.put, List.setIfInBounds_toArray, List.set_cons_zero, List.set_cons_succ]
    refine tk 5 (.bool false) 29 rfl rfl rfl (by kernel_rfl) (fun _ _ _ h => h) (by rfl) hHeld ?_ ?_
    · (intro W hW; (try dsimp only at hW); go_simp)
    try simp only [Act.put, List.setIfInBounds_toArray, List.set_cons_zero, List.set_cons_succ]
    refine tk 6 (.bool false) 30 rfl rfl rfl (by kernel_rfl) (fun _ _ _ h => h) (by rfl) hHeld ?_ ?_
    · (intro W hW; (try dsimp only at hW); go_simp)
    try simp only [Act.put, List.setIfInBounds_toArray, List.set_cons_zero, List.set_cons_succ]
    refine tk 7 (.int .i64 3) 31 rfl rfl rfl (by kernel_rfl) (fun _ _ _ h => h) (by rfl) hHeld ?_ ?_
    · (intro W hW; (try dsimp only at hW); go_simp)
    try simp only [Act.put, List.setIfInBounds_toArray, List.set_cons_zero, List.set_cons_succ]
    refine tk 8 (.bool true) 32 rfl rfl rfl (by kernel_rfl) (fun _ _ _ h => h) (by rfl) hHeld ?_ ?_
    · (intro W hW; (try dsimp only at hW); go_simp)
    try simp only [Act.put, List.setIfInBounds_toArray, List.set_cons_zero, List.set_cons_succ]
    refine tk 9 (.bool true) 33 rfl rfl rfl (by kernel_rfl) (fun _ _ _ h => h) (by rfl) hHeld ?_ ?_
    · (intro W hW; (try dsimp only at hW); go_simp)
    try simp only [Act.put, List.setIfInBounds_toArray, List.set_cons_zero, List.set_cons_succ]
    refine tk 10 (.bool true) 34 rfl rfl rfl (by kernel_rfl) (fun _ _ _ h => h) (by rfl) hHeld ?_ ?_
    · (intro W hW; (try dsimp only at hW); go_simp)
    try simp only [Act.put, List.setIfInBounds_toArray, List.set_cons_zero, List.set_cons_succ]
    refine tk 11 (.bool true) 35 rfl rfl rfl (by kernel_rfl) (fun _ _ _ h => h) (by rfl) hHeld ?_ ?_
    · (intro W hW; (try dsimp only at hW); go_simp)
    try simp only [Act.put, List.setIfInBounds_toArray, List.set_cons_zero, List.set_cons_succ]
    refine tk 12 (.agg #[.slice pa0 pm0 pc0, .slice pa1 pm1 pc1, .slice pa2 pm2 pc2, .slice pa3 pm3 pc3, .slice pa4 pm4 pc4, .slice pa5 pm5 pc5, .slice pa6 pm6 pc6]) 36 rfl rfl rfl (by kernel_rfl) (fun _ _ _ h => h) (by rfl) hHeld ?_ ?_
    · (intro W hW; (try dsimp only at hW); have x0 := (Z8.out.next (nextB DD.out hW)).cell 0 _ rfl; have x1 := (Z8.out.next (nextB DD.out hW)).cell 1 _ rfl; have x2 := (Z8.out.next (nextB DD.out hW)).cell 2 _ rfl; have x3 := (Z8.out.next (nextB DD.out hW)).cell 3 _ rfl; have x4 := (Z8.out.next (nextB DD.out hW)).cell 4 _ rfl; have x5 := (Z8.out.next (nextB DD.out hW)).cell 5 _ rfl; have x6 := (Z8.out.next (nextB DD.out hW)).cell 6 _ rfl; go_simp)
    try simp only [Act.put, List.setIfInBounds_toArray, List.set_cons_zero, List.set_cons_succ]
    refine tk 15 (.agg #[.slice qa0 qm0 qc0, .slice qa1 qm1 qc1, .slice qa2 qm2 qc2, .slice qa3 qm3 qc3, .slice qa4 qm4 qc4, .slice qa5 qm5 qc5, .slice qa6 qm6 qc6]) 39 rfl rfl rfl (by kernel_rfl) (fun _ _ _ h => h) (by rfl) hHeld ?_ ?_
    · (intro W hW; (try dsimp only at hW); have x0 := (X8.out.next (nextB DD.out hW)).cell 0 _ rfl; have x1 := (X8.out.next (nextB DD.out hW)).cell 1 _ rfl; have x2 := (X8.out.next (nextB DD.out hW)).cell 2 _ rfl; have x3 := (X8.out.next (nextB DD.out hW)).cell 3 _ rfl; have x4 := (X8.out.next (nextB DD.out hW)).cell 4 _ rfl; have x5 := (X8.out.next (nextB DD.out hW)).cell 5 _ rfl; have x6 := (X8.out.next (nextB DD.out hW)).cell 6 _ rfl; go_simp)
    try simp only [Act.put, List.setIfInBounds_toArray, List.set_cons_zero, List.set_cons_succ]
    refine wpAnyH_ready (rs := [13]) (by kernel_rfl) (by simp) ?_
    refine cons2 rfl rfl (fun K9 hK => ?_)
    go_simp
    refine Calls.mono (ref14_Encode_any wz _ pp (O8.out.next DD.out) (by have := LB.out; omega)) ?_
    rintro e wa ⟨⟨vwa, rfl, owa⟩, bwa⟩
    obtain ⟨ewa, fwa, gwa, rfl, ywa⟩ : ∃ a n c, vwa = .slice a n c ∧ By wa a n c (bytesOf pp) := by
      obtain ⟨a, c, e, y, -, -⟩ := owa.by
      exact ⟨a, _, c, e, y⟩
    have Cwa := hid (show ∀ W, Below wa.heap.size wa W → (convert 38 9 (.slice ewa fwa gwa)).run Tryd.prog W = .ok (.string SP) W from fun W hW => by rw [HP.out]; exact (ywa.below hW).str)
    have BB := hid bwa
    replace DD := hid (nextB DD.out bwa)
    clear owa bwa ywa
    go_wp2_with fail
    refine hK.out _ _ BB.out (fun hX => ?_)
    clear hK K9 hHeld
    have hHeld := hX
    clear hX
    try simp only [Act.put, List.setIfInBounds_toArray, List.set_cons_zero, List.set_cons_succ]
    refine wpAnyH_strong (S' := fun W => Below wa.heap.size wa W) (fun W hW => nextB hHeld hW) _ _ _ _ ?_
    clear hHeld
    have hHeld := Below.refl wa.heap.size wa
    clear BB
    refine tk 14 (.string SP) 38 rfl rfl rfl (by kernel_rfl) (fun _ _ _ h => h) (by rfl) hHeld ?_ ?_
    · (intro W hW; (try dsimp only at hW); have q0 := Cwa.out W hW; go_simp)
    try simp only [Act.put, List.setIfInBounds_toArray, List.set_cons_zero, List.set_cons_succ]
    refine wpAnyH_ready (rs := [16]) (by kernel_rfl) (by simp) ?_
    refine cons2 rfl rfl (fun K9 hK => ?_)
    go_simp
    refine Calls.mono (ref14_Encode_any wa _ pp (P8.out.next DD.out) (by have := LB.out; omega)) ?_
    rintro e wb ⟨⟨vwb, rfl, owb⟩, bwb⟩
    obtain ⟨ewb, fwb, gwb, rfl, ywb⟩ : ∃ a n c, vwb = .slice a n c ∧ By wb a n c (bytesOf pp) := by
      obtain ⟨a, c, e, y, -, -⟩ := owb.by
      exact ⟨a, _, c, e, y⟩
    have Cwb := hid (show ∀ W, Below wb.heap.size wb W → (convert 38 9 (.slice ewb fwb gwb)).run Tryd.prog W = .ok (.string SP) W from fun W hW => by rw [HP.out]; exact (ywb.below hW).str)
    have BB := hid bwb
    replace DD := hid (nextB DD.out bwb)
    clear owb bwb ywb
    go_wp2_with fail
    refine hK.out _ _ BB.out (fun hX => ?_)
    clear hK K9 hHeld
    have hHeld := hX
    clear hX
    try simp only [Act.put, List.setIfInBounds_toArray, List.set_cons_zero, List.set_cons_succ]
    refine wpAnyH_strong (S' := fun W => Below wb.heap.size wb W) (fun W hW => nextB hHeld hW) _ _ _ _ ?_
    clear hHeld
    have hHeld := Below.refl wb.heap.size wb
    clear BB
    refine tk 17 (.string SP) 41 rfl rfl rfl (by kernel_rfl) (fun _ _ _ h => h) (by rfl) hHeld ?_ ?_
    · (intro W hW; (try dsimp only at hW); have q0 := Cwb.out W hW; go_simp)
    try simp only [Act.put, List.setIfInBounds_toArray, List.set_cons_zero, List.set_cons_succ]
    refine tk 18 (.bool true) 42 rfl rfl rfl (by kernel_rfl) (fun _ _ _ h => h) (by rfl) hHeld ?_ ?_
    · (intro W hW; (try dsimp only at hW); go_simp)
    try simp only [Act.put, List.setIfInBounds_toArray, List.set_cons_zero, List.set_cons_succ]
    refine tk 19 (.bool true) 43 rfl rfl rfl (by kernel_rfl) (fun _ _ _ h => h) (by rfl) hHeld ?_ ?_
    · (intro W hW; (try dsimp only at hW); go_simp)
    try simp only [Act.put, List.setIfInBounds_toArray, List.set_cons_zero, List.set_cons_succ]
    refine tk 20 (.bool true) 44 rfl rfl rfl (by kernel_rfl) (fun _ _ _ h => h) (by rfl) hHeld ?_ ?_
    · (intro W hW; (try dsimp only at hW); go_simp)
    try simp only [Act.put, List.setIfInBounds_toArray, List.set_cons_zero, List.set_cons_succ]
    refine tk 21 (.bool false) 45 rfl rfl rfl (by kernel_rfl) (fun _ _ _ h => h) (by rfl) hHeld ?_ ?_
    · (intro W hW; (try dsimp only at hW); go_simp)
    try simp only [Act.put, List.setIfInBounds_toArray, List.set_cons_zero, List.set_cons_succ]
    refine tk 22 (.bool true) 46 rfl rfl rfl (by kernel_rfl) (fun _ _ _ h => h) (by rfl) hHeld ?_ ?_
    · (intro W hW; (try dsimp only at hW); go_simp)
    try simp only [Act.put, List.setIfInBounds_toArray, List.set_cons_zero, List.set_cons_succ]
    refine tk 23 (.bool true) 47 rfl rfl rfl (by kernel_rfl) (fun _ _ _ h => h) (by rfl) hHeld ?_ ?_
    · (intro W hW; (try dsimp only at hW); go_simp)
    try simp only [Act.put, List.setIfInBounds_toArray, List.set_cons_zero, List.set_cons_succ]
    refine sk 24 48 rfl rfl rfl (by kernel_rfl) (fun _ _ _ h => h) (by rfl) hHeld ?_
    try simp only [Act.put, List.setIfInBounds_toArray, List.set_cons_zero, List.set_cons_succ]
    refine sk 25 49 rfl rfl rfl (by kernel_rfl) (fun _ _ _ h => h) (by rfl) hHeld ?_
    try simp only [Act.put, List.setIfInBounds_toArray, List.set_cons_zero, List.set_cons_succ]
    refine sk 26 50 rfl rfl rfl (by kernel_rfl) (fun _ _ _ h => h) (by rfl) hHeld ?_
    try simp only [Act.put, List.setIfInBounds_toArray, List.set_cons_zero, List.set_cons_succ]
    refine sk 27 51 rfl rfl rfl (by kernel_rfl) (fun _ _ _ h => h) (by rfl) hHeld ?_
    try simp only [Act.put, List.setIfInBounds_toArray, List.set_cons_zero, List.set_cons_succ]
    refine sk 28 52 rfl rfl rfl (by kernel_rfl) (fun _ _ _ h => h) (by rfl) hHeld ?_
    try simp only [Act.put, List.setIfInBounds_toArray, List.set_cons_zero, List.set_cons_succ]
    refine sk 29 53 rfl rfl rfl (by kernel_rfl) (fun _ _ _ h => h) (by rfl) hHeld ?_
    try simp only [Act.put, List.setIfInBounds_toArray, List.set_cons_zero, List.set_cons_succ]
    refine tk 30 (.bool true) 54 rfl rfl rfl (by kernel_rfl) (fun _ _ _ h => h) (by rfl) hHeld ?_ ?_
    · (intro W hW; (try dsimp only at hW); go_simp)
    try simp only [Act.put, List.setIfInBounds_toArray, List.set_cons_zero, List.set_cons_succ]
    refine tk 31 (.bool true) 55 rfl rfl rfl (by kernel_rfl) (fun _ _ _ h => h) (by rfl) hHeld ?_ ?_
    · (intro W hW; (try dsimp only at hW); go_simp)
    try simp only [Act.put, List.setIfInBounds_toArray, List.set_cons_zero, List.set_cons_succ]
    refine tk 32 (.bool true) 2 rfl rfl rfl (by kernel_rfl) (fun _ _ _ h => h) (by rfl) hHeld ?_ ?_
    · (intro W hW; (try dsimp only at hW); go_simp)
    try simp only [Act.put, List.setIfInBounds_toArray, List.set_cons_zero, List.set_cons_succ]
    refine wpAnyH_done (by kernel_rfl) ?_ _
    go_wp2_with fail
    go_ret
    exact ⟨rfl, nextB B8.out DD.out⟩
  | some pp =>
    rw [show errP bs = 0 from by unfold errP; rw [ed]]
    rw [ed] at P8 O8 LB
    replace P8 := hid (show Pw w8 _ pp from P8.out)
    replace O8 := hid (show Pw w8 _ pp from O8.out)
    replace LB := hid (show (bodyOf pp).length ≤ 8000000 from LB.out)
    have EB := (SM.out pp ed).1
    clear EE SM ed
    obtain ⟨SP, hSP⟩ : ∃ s, s = strOfNums (bytesOf pp) := ⟨_, rfl⟩
    have HP := hid hSP
    have EQS := hid (show SB = SP from by rw [hSP, EB]; exact HB.out)
    clear hSP EB
    refine wp_region_held_drew (S := fun W => Below w8.heap.size w8 W) (by kernel_rfl) (Below.refl _ _).drew (fun hHeld => ?_)
    have DD := hid (show Below w8.heap.size w8 w8.drew from (Below.refl _ _).drew)
    generalize w8.drew = wz at *
    refine wpAnyH_strong (S' := fun W => Below wz.heap.size wz W) (fun W hW => nextB hHeld hW) _ _ _ _ ?_
    clear hHeld
    have hHeld := Below.refl wz.heap.size wz
    refine tk 0 (.bool true) 24 rfl rfl rfl (by kernel_rfl) (fun _ _ _ h => h) (by rfl) hHeld ?_ ?_
    · (intro W hW; (try dsimp only at hW); go_simp)
    try simp only [Act.put, List.setIfInBounds_toArray, List.set_cons_zero, List.set_cons_succ]
    refine tk 1 (.int .i64 0) 25 rfl rfl rfl (by kernel_rfl) (fun _ _ _ h => h) (by rfl) hHeld ?_ ?_
    · (intro W hW; (try dsimp only at hW); go_simp)
    try simp only [Act.put, List.setIfInBounds_toArray, List.set_cons_zero, List.set_cons_succ]
    refine tk 2 (.bool true) 26 rfl rfl rfl (by kernel_rfl) (fun _ _ _ h => h) (by rfl) hHeld ?_ ?_
    · (intro W hW; (try dsimp only at hW); go_simp)
    try simp only [Act.put, List.setIfInBounds_toArray, List.set_cons_zero, List.set_cons_succ]
    refine tk 3 (.bool true) 27 rfl rfl rfl (by kernel_rfl) (fun _ _ _ h => h) (by rfl) hHeld ?_ ?_
    · (intro W hW; (try dsimp only at hW); go_simp)
    try simp only [Act.put, List.setIfInBounds_toArray, List.set_cons_zero, List.set_cons_succ]
    refine tk 4 (.bool true) 28 rfl rfl rfl (by kernel_rfl) (fun _ _ _ h => h) (by rfl) hHeld ?_ ?_
    · (intro W hW; (try dsimp only at hW); go_simp)
    try simp only [Act.put, List.setIfInBounds_toArray, List.set_cons_zero, List.set_cons_succ]
    refine tk 5 (.bool true) 29 rfl rfl rfl (by kernel_rfl) (fun _ _ _ h => h) (by rfl) hHeld ?_ ?_
    · (intro W hW; (try dsimp only at hW); go_simp)
    try simp only [Act.put, List.setIfInBounds_toArray, List.set_cons_zero, List.set_cons_succ]
    refine tk 6 (.bool true) 30 rfl rfl rfl (by kernel_rfl) (fun _ _ _ h => h) (by rfl) hHeld ?_ ?_
    · (intro W hW; (try dsimp only at hW); go_simp)
    try simp only [Act.put, List.setIfInBounds_toArray, List.set_cons_zero, List.set_cons_succ]
    refine sk 7 31 rfl rfl rfl (by kernel_rfl) (fun _ _ _ h => h) (by rfl) hHeld ?_
    try simp only [Act.put, List.setIfInBounds_toArray, List.set_cons_zero, List.set_cons_succ]
    refine sk 8 32 rfl rfl rfl (by kernel_rfl) (fun _ _ _ h => h) (by rfl) hHeld ?_
    try simp only [Act.put, List.setIfInBounds_toArray, List.set_cons_zero, List.set_cons_succ]
    refine tk 9 (.bool true) 33 rfl rfl rfl (by kernel_rfl) (fun _ _ _ h => h) (by rfl) hHeld ?_ ?_
    · (intro W hW; (try dsimp only at hW); go_simp)
    try simp only [Act.put, List.setIfInBounds_toArray, List.set_cons_zero, List.set_cons_succ]
    refine tk 10 (.bool true) 34 rfl rfl rfl (by kernel_rfl) (fun _ _ _ h => h) (by rfl) hHeld ?_ ?_
    · (intro W hW; (try dsimp only at hW); go_simp)
    try simp only [Act.put, List.setIfInBounds_toArray, List.set_cons_zero, List.set_cons_succ]
    refine tk 11 (.bool true) 35 rfl rfl rfl (by kernel_rfl) (fun _ _ _ h => h) (by rfl) hHeld ?_ ?_
    · (intro W hW; (try dsimp only at hW); go_simp)
    try simp only [Act.put, List.setIfInBounds_toArray, List.set_cons_zero, List.set_cons_succ]
    refine tk 12 (.agg #[.slice pa0 pm0 pc0, .slice pa1 pm1 pc1, .slice pa2 pm2 pc2, .slice pa3 pm3 pc3, .slice pa4 pm4 pc4, .slice pa5 pm5 pc5, .slice pa6 pm6 pc6]) 36 rfl rfl rfl (by kernel_rfl) (fun _ _ _ h => h) (by rfl) hHeld ?_ ?_
    · (intro W hW; (try dsimp only at hW); have x0 := (Z8.out.next (nextB DD.out hW)).cell 0 _ rfl; have x1 := (Z8.out.next (nextB DD.out hW)).cell 1 _ rfl; have x2 := (Z8.out.next (nextB DD.out hW)).cell 2 _ rfl; have x3 := (Z8.out.next (nextB DD.out hW)).cell 3 _ rfl; have x4 := (Z8.out.next (nextB DD.out hW)).cell 4 _ rfl; have x5 := (Z8.out.next (nextB DD.out hW)).cell 5 _ rfl; have x6 := (Z8.out.next (nextB DD.out hW)).cell 6 _ rfl; go_simp)
    try simp only [Act.put, List.setIfInBounds_toArray, List.set_cons_zero, List.set_cons_succ]
    refine tk 15 (.agg #[.slice qa0 qm0 qc0, .slice qa1 qm1 qc1, .slice qa2 qm2 qc2, .slice qa3 qm3 qc3, .slice qa4 qm4 qc4, .slice qa5 qm5 qc5, .slice qa6 qm6 qc6]) 39 rfl rfl rfl (by kernel_rfl) (fun _ _ _ h => h) (by rfl) hHeld ?_ ?_
    · (intro W hW; (try dsimp only at hW); have x0 := (X8.out.next (nextB DD.out hW)).cell 0 _ rfl; have x1 := (X8.out.next (nextB DD.out hW)).cell 1 _ rfl; have x2 := (X8.out.next (nextB DD.out hW)).cell 2 _ rfl; have x3 := (X8.out.next (nextB DD.out hW)).cell 3 _ rfl; have x4 := (X8.out.next (nextB DD.out hW)).cell 4 _ rfl; have x5 := (X8.out.next (nextB DD.out hW)).cell 5 _ rfl; have x6 := (X8.out.next (nextB DD.out hW)).cell 6 _ rfl; go_simp)
    try simp only [Act.put, List.setIfInBounds_toArray, List.set_cons_zero, List.set_cons_succ]
    refine wpAnyH_ready (rs := [13]) (by kernel_rfl) (by simp) ?_
    refine cons2 rfl rfl (fun K9 hK => ?_)
    go_simp
    refine Calls.mono (ref14_Encode_any wz _ pp (O8.out.next DD.out) (by have := LB.out; omega)) ?_
    rintro e wa ⟨⟨vwa, rfl, owa⟩, bwa⟩
    obtain ⟨ewa, fwa, gwa, rfl, ywa⟩ : ∃ a n c, vwa = .slice a n c ∧ By wa a n c (bytesOf pp) := by
      obtain ⟨a, c, e, y, -, -⟩ := owa.by
      exact ⟨a, _, c, e, y⟩
    have Cwa := hid (show ∀ W, Below wa.heap.size wa W → (convert 38 9 (.slice ewa fwa gwa)).run Tryd.prog W = .ok (.string SP) W from fun W hW => by rw [HP.out]; exact (ywa.below hW).str)
    have BB := hid bwa
    replace DD := hid (nextB DD.out bwa)
    clear owa bwa ywa
    go_wp2_with fail
    refine hK.out _ _ BB.out (fun hX => ?_)
    clear hK K9 hHeld
    have hHeld := hX
    clear hX
    try simp only [Act.put, List.setIfInBounds_toArray, List.set_cons_zero, List.set_cons_succ]
    refine wpAnyH_strong (S' := fun W => Below wa.heap.size wa W) (fun W hW => nextB hHeld hW) _ _ _ _ ?_
    clear hHeld
    have hHeld := Below.refl wa.heap.size wa
    clear BB
    refine tk 14 (.string SP) 38 rfl rfl rfl (by kernel_rfl) (fun _ _ _ h => h) (by rfl) hHeld ?_ ?_
    · (intro W hW; (try dsimp only at hW); have q0 := Cwa.out W hW; go_simp)
    try simp only [Act.put, List.setIfInBounds_toArray, List.set_cons_zero, List.set_cons_succ]
    refine wpAnyH_ready (rs := [16]) (by kernel_rfl) (by simp) ?_
    refine cons2 rfl rfl (fun K9 hK => ?_)
    go_simp
    refine Calls.mono (ref14_Encode_any wa _ pp (P8.out.next DD.out) (by have := LB.out; omega)) ?_
    rintro e wb ⟨⟨vwb, rfl, owb⟩, bwb⟩
    obtain ⟨ewb, fwb, gwb, rfl, ywb⟩ : ∃ a n c, vwb = .slice a n c ∧ By wb a n c (bytesOf pp) := by
      obtain ⟨a, c, e, y, -, -⟩ := owb.by
      exact ⟨a, _, c, e, y⟩
    have Cwb := hid (show ∀ W, Below wb.heap.size wb W → (convert 38 9 (.slice ewb fwb gwb)).run Tryd.prog W = .ok (.string SP) W from fun W hW => by rw [HP.out]; exact (ywb.below hW).str)
    have BB := hid bwb
    replace DD := hid (nextB DD.out bwb)
    clear owb bwb ywb
    go_wp2_with fail
    refine hK.out _ _ BB.out (fun hX => ?_)
    clear hK K9 hHeld
    have hHeld := hX
    clear hX
    try simp only [Act.put, List.setIfInBounds_toArray, List.set_cons_zero, List.set_cons_succ]
    refine wpAnyH_strong (S' := fun W => Below wb.heap.size wb W) (fun W hW => nextB hHeld hW) _ _ _ _ ?_
    clear hHeld
    have hHeld := Below.refl wb.heap.size wb
    clear BB
    refine tk 17 (.string SP) 41 rfl rfl rfl (by kernel_rfl) (fun _ _ _ h => h) (by rfl) hHeld ?_ ?_
    · (intro W hW; (try dsimp only at hW); have q0 := Cwb.out W hW; go_simp)
    try simp only [Act.put, List.setIfInBounds_toArray, List.set_cons_zero, List.set_cons_succ]
    refine tk 18 (.bool true) 42 rfl rfl rfl (by kernel_rfl) (fun _ _ _ h => h) (by rfl) hHeld ?_ ?_
    · (intro W hW; (try dsimp only at hW); go_simp)
    try simp only [Act.put, List.setIfInBounds_toArray, List.set_cons_zero, List.set_cons_succ]
    refine tk 19 (.bool true) 43 rfl rfl rfl (by kernel_rfl) (fun _ _ _ h => h) (by rfl) hHeld ?_ ?_
    · (intro W hW; (try dsimp only at hW); go_simp)
    try simp only [Act.put, List.setIfInBounds_toArray, List.set_cons_zero, List.set_cons_succ]
    refine tk 20 (.bool true) 44 rfl rfl rfl (by kernel_rfl) (fun _ _ _ h => h) (by rfl) hHeld ?_ ?_
    · (intro W hW; (try dsimp only at hW); go_simp)
    try simp only [Act.put, List.setIfInBounds_toArray, List.set_cons_zero, List.set_cons_succ]
    refine tk 21 (.bool true) 45 rfl rfl rfl (by kernel_rfl) (fun _ _ _ h => h) (by rfl) hHeld ?_ ?_
    · (intro W hW; (try dsimp only at hW); go_simp)
    try simp only [Act.put, List.setIfInBounds_toArray, List.set_cons_zero, List.set_cons_succ]
    refine tk 22 (.bool false) 46 rfl rfl rfl (by kernel_rfl) (fun _ _ _ h => h) (by rfl) hHeld ?_ ?_
    · (intro W hW; (try dsimp only at hW); go_simp)
    try simp only [Act.put, List.setIfInBounds_toArray, List.set_cons_zero, List.set_cons_succ]
    refine tk 23 (.bool false) 47 rfl rfl rfl (by kernel_rfl) (fun _ _ _ h => h) (by rfl) hHeld ?_ ?_
    · (intro W hW; (try dsimp only at hW); go_simp)
    try simp only [Act.put, List.setIfInBounds_toArray, List.set_cons_zero, List.set_cons_succ]
    refine tk 24 (.agg #[.slice pa0 pm0 pc0, .slice pa1 pm1 pc1, .slice pa2 pm2 pc2, .slice pa3 pm3 pc3, .slice pa4 pm4 pc4, .slice pa5 pm5 pc5, .slice pa6 pm6 pc6]) 48 rfl rfl rfl (by kernel_rfl) (fun _ _ _ h => h) (by rfl) hHeld ?_ ?_
    · (intro W hW; (try dsimp only at hW); have x0 := (Z8.out.next (nextB DD.out hW)).cell 0 _ rfl; have x1 := (Z8.out.next (nextB DD.out hW)).cell 1 _ rfl; have x2 := (Z8.out.next (nextB DD.out hW)).cell 2 _ rfl; have x3 := (Z8.out.next (nextB DD.out hW)).cell 3 _ rfl; have x4 := (Z8.out.next (nextB DD.out hW)).cell 4 _ rfl; have x5 := (Z8.out.next (nextB DD.out hW)).cell 5 _ rfl; have x6 := (Z8.out.next (nextB DD.out hW)).cell 6 _ rfl; go_simp)
    try simp only [Act.put, List.setIfInBounds_toArray, List.set_cons_zero, List.set_cons_succ]
    refine tk 27 (.slice a n c) 51 rfl rfl rfl (by kernel_rfl) (fun _ _ _ h => h) (by rfl) hHeld ?_ ?_
    · (intro W hW; (try dsimp only at hW); go_simp)
    try simp only [Act.put, List.setIfInBounds_toArray, List.set_cons_zero, List.set_cons_succ]
    refine tk 28 (.string SB) 52 rfl rfl rfl (by kernel_rfl) (fun _ _ _ h => h) (by rfl) hHeld ?_ ?_
    · (intro W hW; (try dsimp only at hW); have q0 := SY.out W (nextB DD.out hW); go_simp)
    try simp only [Act.put, List.setIfInBounds_toArray, List.set_cons_zero, List.set_cons_succ]
    refine wpAnyH_ready (rs := [25]) (by kernel_rfl) (by simp) ?_
    refine cons2 rfl rfl (fun K9 hK => ?_)
    go_simp
    refine Calls.mono (code_Encode_any wb _ pp (O8.out.next DD.out) (by have := LB.out; omega) (TW.out.next DD.out).sm) ?_
    rintro e wc ⟨⟨vwc, rfl, owc⟩, bwc⟩
    obtain ⟨ewc, fwc, gwc, rfl, ywc⟩ : ∃ a n c, vwc = .slice a n c ∧ By wc a n c (bytesOf pp) := by
      obtain ⟨a, c, e, y, -, -⟩ := owc.by
      exact ⟨a, _, c, e, y⟩
    have Cwc := hid (show ∀ W, Below wc.heap.size wc W → (convert 38 9 (.slice ewc fwc gwc)).run Tryd.prog W = .ok (.string SP) W from fun W hW => by rw [HP.out]; exact (ywc.below hW).str)
    have BB := hid bwc
    replace DD := hid (nextB DD.out bwc)
    clear owc bwc ywc
    go_wp2_with fail
    refine hK.out _ _ BB.out (fun hX => ?_)
    clear hK K9 hHeld
    have hHeld := hX
    clear hX
    try simp only [Act.put, List.setIfInBounds_toArray, List.set_cons_zero, List.set_cons_succ]
    refine wpAnyH_strong (S' := fun W => Below wc.heap.size wc W) (fun W hW => nextB hHeld hW) _ _ _ _ ?_
    clear hHeld
    have hHeld := Below.refl wc.heap.size wc
    clear BB
    refine tk 26 (.string SP) 50 rfl rfl rfl (by kernel_rfl) (fun _ _ _ h => h) (by rfl) hHeld ?_ ?_
    · (intro W hW; (try dsimp only at hW); have q0 := Cwc.out W hW; go_simp)
    try simp only [Act.put, List.setIfInBounds_toArray, List.set_cons_zero, List.set_cons_succ]
    have SPB := hid EQS.out
    refine tk 29 (.bool true) 53 rfl rfl rfl (by kernel_rfl) (fun _ _ _ h => h) (by rfl) hHeld ?_ ?_
    · (intro W hW; (try dsimp only at hW); have q0 := EQS.out; subst q0; go_simp)
    try simp only [Act.put, List.setIfInBounds_toArray, List.set_cons_zero, List.set_cons_succ]
    refine tk 30 (.bool true) 54 rfl rfl rfl (by kernel_rfl) (fun _ _ _ h => h) (by rfl) hHeld ?_ ?_
    · (intro W hW; (try dsimp only at hW); go_simp)
    try simp only [Act.put, List.setIfInBounds_toArray, List.set_cons_zero, List.set_cons_succ]
    refine tk 31 (.bool true) 55 rfl rfl rfl (by kernel_rfl) (fun _ _ _ h => h) (by rfl) hHeld ?_ ?_
    · (intro W hW; (try dsimp only at hW); go_simp)
    try simp only [Act.put, List.setIfInBounds_toArray, List.set_cons_zero, List.set_cons_succ]
    refine tk 32 (.bool true) 2 rfl rfl rfl (by kernel_rfl) (fun _ _ _ h => h) (by rfl) hHeld ?_ ?_
    · (intro W hW; (try dsimp only at hW); go_simp)
    try simp only [Act.put, List.setIfInBounds_toArray, List.set_cons_zero, List.set_cons_succ]
    refine wpAnyH_done (by kernel_rfl) ?_ _
    go_wp2_with fail
    go_ret
    exact ⟨rfl, nextB B8.out DD.out⟩

end Go.Proofs.YtcmifdnndckpcaaDoor
