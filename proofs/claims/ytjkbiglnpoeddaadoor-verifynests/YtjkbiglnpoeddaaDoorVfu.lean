/- The walk over verify's follow, of outputs. -/
import Derived.Test.YtjkbiglnpoeddaaDoorVft
import Derived.WalkMore
import Derived.Deep.LoopGhost
namespace Go.Proofs.YtjkbiglnpoeddaaDoor.Vf
open Go.RowKit
set_option linter.unusedVariables false
set_option linter.unusedSimpArgs false

set_option maxRecDepth 100000 in
set_option maxHeartbeats 8000000 in
theorem followP_any {W0 w : World} {ab : Nat} {all : Int} {s : S7} {p : Pg} (hP0 : Pv W0 s p) (hT0 : RT W0) (hB0 : Below W0.heap.size W0 w) (hn : s.m6 ≤ 99999) (h0 : 0 < s.m6)
    (hb : w.cell? ⟨ab, 0, none⟩ = some (.int .u64 all)) (hR : ∀ x, x ∈ p.co → Rst x.1 ∧ 0 ≤ x.2.1 ∧ x.2.1 ≤ 63) (hO : ∀ (k : Nat) x, p.co[k]? = some x → ∀ t, t ∈ onwF k x → 0 ≤ t ∧ t < (s.m6 : Int)) :
    Calls Tryd.prog 35 #[.agg #[.slice s.a0 s.m0 s.c0, .slice s.a1 s.m1 s.c1, .slice s.a2 s.m2 s.c2, .slice s.a3 s.m3 s.c3, .slice s.a4 s.m4 s.c4, .slice s.a5 s.m5 s.c5, .slice s.a6 s.m6 s.c6], .agg #[.int .i64 (-1), .int .u64 0], .func (.func 36) #[] #[.pointer (some ⟨ab, 0, none⟩)]] w fun e w' => e = .returned (foO (folO p all)) ∧ Below w.heap.size w w' := by
  have L := hid (hP0.next hB0).k6.len
  have XP := hid (Bx.new w #[.slice s.a0 s.m0 s.c0, .slice s.a1 s.m1 s.c1, .slice s.a2 s.m2 s.c2, .slice s.a3 s.m3 s.c3, .slice s.a4 s.m4 s.c4, .slice s.a5 s.m5 s.c5, .slice s.a6 s.m6 s.c6] 35 (by decide))
  have A1 := allocB w (.cells #[.slice s.a0 s.m0 s.c0, .slice s.a1 s.m1 s.c1, .slice s.a2 s.m2 s.c2, .slice s.a3 s.m3 s.c3, .slice s.a4 s.m4 s.c4, .slice s.a5 s.m5 s.c5, .slice s.a6 s.m6 s.c6] 35)
  obtain ⟨wa, hwa⟩ : ∃ wa, wa = w.alloc (.cells #[.slice s.a0 s.m0 s.c0, .slice s.a1 s.m1 s.c1, .slice s.a2 s.m2 s.c2, .slice s.a3 s.m3 s.c3, .slice s.a4 s.m4 s.c4, .slice s.a5 s.m5 s.c5, .slice s.a6 s.m6 s.c6] 35) := ⟨_, rfl⟩
  have Za : wa.heap.size = w.heap.size + 1 := by rw [hwa]; simp
  rw [← hwa] at XP A1
  have XQ := hid (Bx.new wa #[.int .i64 (-1), .int .u64 0] 76 (by decide))
  have A2 := allocB wa (.cells #[.int .i64 (-1), .int .u64 0] 76)
  have XP := hid (Bx.next XP.out A2)
  have BP := hid (nxB A1 A2)
  obtain ⟨pb, hpb⟩ : ∃ pb, pb = w.heap.size := ⟨_, rfl⟩
  have WP := hid hpb
  rw [← hpb] at XP
  rw [Za, ← hpb] at XQ
  have WA := hid hwa
  obtain ⟨g, o, ea, hI⟩ := ins_all hP0.k6 h0
  have IC := hid hI
  have VX := hid (fun i (hi : i < s.m6) => Vw.ex hP0.k6 hi)
  have T0 := hid hT0
  have HR := hid hR
  have HO := hid hO
  have N6 := hid hn
  have Z6 := hid h0
  have HB := hid hb
  have B0 := hid hB0
  have EA := hid ea
  have mb : (s.m6 : Int) ≤ 1000000 := by omega
  have m0 : (0 : Int) < (s.m6 : Int) := by omega
  have BXL := hid (World.block_lt_of_cell? _ _ hb)
  obtain ⟨G, hG⟩ : ∃ G, folO p all = G := ⟨_, rfl⟩
  have RG := hid hG
  rw [hG]
  clear hP0 hT0 hB0 hn h0 hb hR hO hpb hI ea hG hwa A1 A2 Za
  go_enter Tryd.func35, Tryd.ntmps35
  go_upto_region 1 with fail
  rw [← WA.out, ← WP.out]
  generalize World.alloc wa _ = w1 at *
  have d6 : w1.cell? ⟨pb, 6, none⟩ = some (.slice (some ⟨g, o, none⟩) s.m6 s.c6) := by rw [← EA.out]; exact XP.out.cell 6 _ rfl
  obtain ⟨o1, mk1, z1⟩ := make_progs w1 s.m6 (by have := N6.out; omega)
  obtain ⟨o2, mk2, s2, z2⟩ := make_bools (w1.alloc (.cells o1 76)) s.m6 (by have := N6.out; omega)
  have S3 := hid (SB.new (w1 := w1) z1 z2)
  have A2 := allocB w1 (.cells o1 76)
  have A3 := allocB (w1.alloc (.cells o1 76)) (.cells o2 4)
  have B3 := hid (nxB A2 A3)
  have d6b := celB A2 d6
  have d6c := celB A3 d6b
  have sz1 : (w1.alloc (.cells o1 76)).heap.size = w1.heap.size + 1 := by simp
  rw [sz1] at mk2
  clear s2 z1 z2 A2 A3
  go_step3
  go_upto_region 3 with fail
  clear d6 d6b d6c mk1 mk2 sz1
  obtain ⟨sb, hsb⟩ : ∃ sb, sb = w1.heap.size := ⟨_, rfl⟩
  obtain ⟨kb, hkb⟩ : ∃ kb, kb = w1.heap.size + 1 := ⟨_, rfl⟩
  rw [← hkb, ← hsb]
  rw [← hkb, ← hsb] at S3
  have SZ := hid (And.intro hsb hkb)
  generalize World.alloc (World.alloc w1 _) _ = w3 at *
  have XP3 := hid (Bx.next XP.out B3.out)
  have XQ3 := hid (Bx.next XQ.out B3.out)
  have BW := hid (nxB BP.out B3.out)
  have SBK := hid (show w.heap.size ≤ sb ∧ w.heap.size ≤ kb ∧ pb + 1 < sb from by have := BP.out.size; have := Bx.lt XQ.out; omega)
  have WS := hid (show W0.heap.size ≤ sb ∧ W0.heap.size ≤ kb from by have := SBK.out; have := B0.out.size; omega)
  obtain ⟨e1, e3, e2⟩ := S3.out.cs 0 false (by rw [List.getElem?_replicate, if_pos Z6.out])
  rw [Nat.zero_mul] at e1 e3
  rw [if_neg (by decide)] at e1
  obtain ⟨q0, q1⟩ := Bx.q2 XQ3.out
  have f1 := fun j => (S3.out.fz j).1
  have f2 := fun j => (S3.out.fz j).2
  have nn : sb ≠ kb := S3.out.ne.1
  have nn2 : kb ≠ sb := fun e => nn e.symm
  have F3 := hid (show FJ W0 w w3 sb kb s.m6 (List.replicate s.m6 false) from ⟨Kx.of _ BW.out, B0.out.trans (BW.out.mono B0.out.size), S3.out, by simp⟩)
  have F4 := hid (F3.out.set WS.out.1 WS.out.2 Z6.out)
  have XP4 := hid (Bx.kx XP3.out (setB_kx w3 sb kb 0) (by simp; have := SBK.out; have := WP.out; omega))
  unfold setB at F4 XP4
  rw [Nat.zero_mul] at F4 XP4
  clear F3 hsb hkb
  go_upto_region 4 with fail
  clear e1 e2 e3 f1 f2 nn nn2 S3 XP3 BW B3 XP BP SZ XQ XQ3 q0 q1
  generalize World.setCell (World.setCell (World.setCell w3 _ _) _ _) _ _ = w4 at *
  have d6 : w4.cell? ⟨pb, 6, none⟩ = some (.slice (some ⟨g, o, none⟩) s.m6 s.c6) := by rw [← EA.out]; exact XP4.out.cell 6 _ rfl
  have R0 := hid (show rnO all (p.co.drop 0) 0 ((List.replicate s.m6 false).set 0 true) = G from by rw [← RG.out]; unfold folO; rw [L.out]; rfl)
  clear EA XP4 RG
  go_wp2_with fail
  go_step3
  go_wp2_with fail
  clear d6
  go_loopg [10, 33] (s.m6) (fun g fv kv wr => ∃ (i : Nat) (kn : List Bool), i ≤ s.m6 ∧ g = s.m6 - i ∧ fv = .int .i64 (-1) ∧ kv = .int .i64 (i : Nat) ∧ Hid (FJ W0 w wr sb kb s.m6 kn) ∧ Hid (rnO all (p.co.drop i) i kn = G))
  case atStart => exact ⟨0, _, Nat.zero_le _, rfl, rfl, rfl, F4.out, R0.out⟩
  case round =>
    obtain ⟨i, kn, hi, rfl, rfl, rfl, HF, HG⟩ := hrel
    by_cases q : i < s.m6
    · have q' : (i : Int) < (s.m6 : Int) := by omega
      obtain ⟨x, hx⟩ := VX.out i q
      obtain ⟨h0, h1, h2, h3⟩ := IC.out i x hx
      have k0 := celB HF.out.bl h0
      have k1 := celB HF.out.bl h1
      have k2 := celB HF.out.bl h2
      have k3 := celB HF.out.bl h3
      have AL := allocB wr (.cells #[.int .i64 x.1, .int .i64 x.2.1, .int .i64 x.2.2.1, .int .i64 x.2.2.2] 37)
      have X5 := hid (Bx.new wr #[.int .i64 x.1, .int .i64 x.2.1, .int .i64 x.2.2.1, .int .i64 x.2.2.2] 37 (by decide))
      have F5 := hid (HF.out.next AL)
      have RE := hid (rnO_eq hx HG.out)
      have HX := hid hx
      have XM := hid (List.mem_of_getElem? hx)
      have XC := hid (show wr.heap.size ≠ sb ∧ wr.heap.size ≠ kb from by
        have := HF.out.sa.ne
        omega)
      clear h0 h1 h2 h3 hx AL HF HG
      go_upto_region 8 with fail
      clear k0 k1 k2 k3
      generalize World.alloc wr _ = w5 at *
      generalize wr.heap.size = xb at *
      obtain ⟨x0, x1, x2, x3⟩ := Bx.q4 X5.out
      obtain ⟨o5, ho⟩ : ∃ o5, kn[i]? = some o5 := ⟨_, List.getElem?_eq_getElem (by rw [F5.out.ln]; exact q)⟩
      have GD := hid (show kn.getD i false = o5 from by rw [List.getD_eq_getElem?_getD, ho]; rfl)
      obtain ⟨h1, h3, h2⟩ := F5.out.sa.cs i o5 ho
      clear ho
      cases o5 with
      | false =>
        rw [if_neg (by decide)] at h1
        have RE := hid (show rnO all (p.co.drop (i + 1)) (i + 1) kn = G from by
          have := RE.out
          rw [GD.out, if_neg (by decide)] at this
          exact this)
        go_wp2_with fail
        go_roundg (s.m6 - (i + 1))
        case measure => omega
        case rel => exact ⟨i + 1, kn, by omega, rfl, rfl, by rw [Int.natCast_add]; rfl, F5.out, RE.out⟩
      | true =>
        rw [if_pos rfl] at h1
        have RE := hid (show (if otB all x 0 = true then rnO all (p.co.drop (i + 1)) (i + 1) (gnF (onwF i x) kn) else some i) = G from by
          have := RE.out
          rw [GD.out, if_pos rfl] at this
          exact this)
        have ha := hid (celB (F5.out.kx.bel (Nat.le_refl _) (fun i hi => by simp at hi; rcases hi with e | e <;> subst e; exact SBK.out.1; exact SBK.out.2.1)) HB.out)
        obtain ⟨ok, hok⟩ : ∃ ok, otB all x 0 = ok := ⟨_, rfl⟩
        have EK := hid hok
        rw [hok] at RE
        clear hok
        go_upto_region 9 with fail
        go_cut [13, 14] from 43 to 52 (fun s13 s14 wx => s14 = .bool ok ∧ Hid (∃ r, s13 = .pointer (some ⟨r, 0, none⟩) ∧ Bx wx r 76 #[.int .i64 (-1), .int .u64 0] ∧ w5.heap.size ≤ r ∧ Below w5.heap.size w5 wx))
        case first =>
          refine wp_region_held_drew (S := fun W => W.cell? ⟨xb, 0, none⟩ = some (.int .i64 x.1) ∧ W.cell? ⟨xb, 1, none⟩ = some (.int .i64 x.2.1) ∧ W.cell? ⟨xb, 2, none⟩ = some (.int .i64 x.2.2.1) ∧ W.cell? ⟨xb, 3, none⟩ = some (.int .i64 x.2.2.2) ∧ W.cell? ⟨sb, i * 2, none⟩ = some (.int .i64 (-1)) ∧ W.cell? ⟨sb, i * 2 + 1, none⟩ = some (.int .u64 0)) (by kernel_rfl) ⟨x0, x1, x2, x3, h1, h3⟩ (fun hHeld => ?_)
          have DZ := hid (dw1 w5)
          have HS0 := hid (And.intro x0 (And.intro x1 (And.intro x2 (And.intro x3 (And.intro h1 h3)))))
          generalize w5.drew = wz at *
          clear x0 x1 x2 x3 h1 h2 h3
          have SS := hid (fun W (b : Below w5.heap.size w5 W) => show W.cell? ⟨xb, 0, none⟩ = some (.int .i64 x.1) ∧ W.cell? ⟨xb, 1, none⟩ = some (.int .i64 x.2.1) ∧ W.cell? ⟨xb, 2, none⟩ = some (.int .i64 x.2.2.1) ∧ W.cell? ⟨xb, 3, none⟩ = some (.int .i64 x.2.2.2) ∧ W.cell? ⟨sb, i * 2, none⟩ = some (.int .i64 (-1)) ∧ W.cell? ⟨sb, i * 2 + 1, none⟩ = some (.int .u64 0) from ⟨celB b HS0.out.1, celB b HS0.out.2.1, celB b HS0.out.2.2.1, celB b HS0.out.2.2.2.1, celB b HS0.out.2.2.2.2.1, celB b HS0.out.2.2.2.2.2⟩)
          have KS := hid (fun W (b : Below w5.heap.size w5 W) => out_any (T0.out.next (F5.out.bl.trans (b.mono F5.out.bl.size))) (celB b ha.out) (-1) 0 x (HR.out x XM.out).1 (HR.out x XM.out).2)
          rw [EK.out] at KS
          refine tk 0 (.func (.func 36) #[] #[.pointer (some ⟨ab, 0, none⟩)]) 44 rfl rfl rfl (by kernel_rfl) (fun _ _ _ h => h) (by rfl) hHeld ?_ ?_
          · (intro W hW; (try dsimp only at hW); go_simp)
          try simp only [Act.put, List.setIfInBounds_toArray, List.set_cons_zero, List.set_cons_succ]
          refine tk 1 (.agg #[.int .i64 x.1, .int .i64 x.2.1, .int .i64 x.2.2.1, .int .i64 x.2.2.2]) 45 rfl rfl rfl (by kernel_rfl) (fun _ _ _ h => h) (by rfl) hHeld ?_ ?_
          · (intro W hW; (try dsimp only at hW); obtain ⟨y0, y1, y2, y3, y4, y5⟩ := hW; go_simp)
          try simp only [Act.put, List.setIfInBounds_toArray, List.set_cons_zero, List.set_cons_succ]
          refine tk 2 (.slice (some ⟨sb, 0, none⟩) s.m6 s.m6) 46 rfl rfl rfl (by kernel_rfl) (fun _ _ _ h => h) (by rfl) hHeld ?_ ?_
          · (intro W hW; (try dsimp only at hW); go_simp)
          try simp only [Act.put, List.setIfInBounds_toArray, List.set_cons_zero, List.set_cons_succ]
          refine tk 3 (.int .i64 (i : Nat)) 47 rfl rfl rfl (by kernel_rfl) (fun _ _ _ h => h) (by rfl) hHeld ?_ ?_
          · (intro W hW; (try dsimp only at hW); go_simp)
          try simp only [Act.put, List.setIfInBounds_toArray, List.set_cons_zero, List.set_cons_succ]
          refine tk 4 (.pointer (some ⟨sb, i * 2, none⟩)) 48 rfl rfl rfl (by kernel_rfl) (fun _ _ _ h => h) (by rfl) hHeld ?_ ?_
          · (intro W hW; (try dsimp only at hW); go_simp)
          try simp only [Act.put, List.setIfInBounds_toArray, List.set_cons_zero, List.set_cons_succ]
          refine tk 5 (.agg #[.int .i64 (-1), .int .u64 0]) 49 rfl rfl rfl (by kernel_rfl) (fun _ _ _ h => h) (by rfl) hHeld ?_ ?_
          · (intro W hW; (try dsimp only at hW); obtain ⟨y0, y1, y2, y3, y4, y5⟩ := hW; go_simp)
          try simp only [Act.put, List.setIfInBounds_toArray, List.set_cons_zero, List.set_cons_succ]
          refine wpAnyH_ready (rs := [6, 10]) (by kernel_rfl) (by simp) ?_
          refine cons22 rfl rfl rfl (fun K9 hK => ?_) (fun K9 hK => ?_)
          · go_simp
            (with_reducible refine Calls.mono (KS.out wz DZ.out) ?_)
            rintro e w6 ⟨rfl, bq⟩
            have B_w6 := hid (nxB DZ.out bq)
            clear bq
            (try go_wp2_with fail)
            refine hK.out _ _ (SS.out w6 B_w6.out) (fun hX => ?_)
            clear hK K9 hHeld
            have hHeld := hX
            clear hX
            try simp only [Act.put, List.setIfInBounds_toArray, List.set_cons_zero, List.set_cons_succ]
            refine tk 7 (.tuple #[.agg #[.int .i64 (-1), .int .u64 0], .bool ok]) 43 rfl rfl rfl (by kernel_rfl) (fun _ _ _ h => h) (by rfl) hHeld ?_ ?_
            · (intro W hW; (try dsimp only at hW); go_simp)
            try simp only [Act.put, List.setIfInBounds_toArray, List.set_cons_zero, List.set_cons_succ]
            refine tk 8 (.agg #[.int .i64 (-1), .int .u64 0]) 51 rfl rfl rfl (by kernel_rfl) (fun _ _ _ h => h) (by rfl) hHeld ?_ ?_
            · (intro W hW; (try dsimp only at hW); go_simp)
            try simp only [Act.put, List.setIfInBounds_toArray, List.set_cons_zero, List.set_cons_succ]
            refine tk 9 (.bool ok) 52 rfl rfl rfl (by kernel_rfl) (fun _ _ _ h => h) (by rfl) hHeld ?_ ?_
            · (intro W hW; (try dsimp only at hW); go_simp)
            try simp only [Act.put, List.setIfInBounds_toArray, List.set_cons_zero, List.set_cons_succ]
            refine wpAnyH_ready (rs := [10]) (by kernel_rfl) (by simp) ?_
            refine cons2 rfl rfl (fun K9 hK => ?_)
            have XR := hid (Bx.new w6 #[.int .i64 0, .int .u64 0] 76 (by decide))
            have BR := hid (nxB B_w6.out (allocB w6 (.cells #[.int .i64 0, .int .u64 0] 76)))
            have RL := hid (show w5.heap.size ≤ w6.heap.size from B_w6.out.size)
            go_simp
            (try go_wp2_with fail)
            refine hK.out _ _ (SS.out _ BR.out) (fun hX => ?_)
            clear hK K9 hHeld
            have hHeld := hX
            clear hX
            try simp only [Act.put, List.setIfInBounds_toArray, List.set_cons_zero, List.set_cons_succ]
            generalize World.alloc w6 _ = w7 at *
            generalize w6.heap.size = r at *
            obtain ⟨r0, r1⟩ := Bx.q2 XR.out
            have rz := Bx.fz2 XR.out
            have XS := hid (show Bx ((w7.setCell ⟨r, 0, none⟩ (.int .i64 (-1))).setCell ⟨r, 1, none⟩ (.int .u64 0)) r 76 #[.int .i64 (-1), .int .u64 0] from Bx.set (Bx.set XR.out 0 (.int .i64 (-1))) 1 (.int .u64 0))
            have BS := hid (show Below w5.heap.size w5 ((w7.setCell ⟨r, 0, none⟩ (.int .i64 (-1))).setCell ⟨r, 1, none⟩ (.int .u64 0)) from (((Kx.of [r] BR.out).set (p := r) (i := 0) (.int .i64 (-1)) (by simp)).set (p := r) (i := 1) (.int .u64 0) (by simp)).bel (Nat.le_refl _) (fun i hi => by simp at hi; subst hi; exact RL.out))
            refine wpAnyH_ready (rs := [11]) (by kernel_rfl) (by simp) ?_
            refine cons2 rfl rfl (fun K9 hK => ?_)
            go_simp
            (try go_wp2_with fail)
            refine hK.out _ _ (SS.out _ BS.out) (fun hX => ?_)
            clear hK K9 hHeld
            have hHeld := hX
            clear hX
            try simp only [Act.put, List.setIfInBounds_toArray, List.set_cons_zero, List.set_cons_succ]
            refine tk 12 (.bool ok) 14 rfl rfl rfl (by kernel_rfl) (fun _ _ _ h => h) (by rfl) hHeld ?_ ?_
            · (intro W hW; (try dsimp only at hW); go_simp)
            try simp only [Act.put, List.setIfInBounds_toArray, List.set_cons_zero, List.set_cons_succ]
            refine wpAnyH_done (by kernel_rfl) ?_ _
            generalize ((World.setCell (World.setCell _ ⟨r, 0, none⟩ _) ⟨r, 1, none⟩ _)) = w9 at *
            go_wp2_with fail
            go_meet
            exact ⟨rfl, r, rfl, XS.out, RL.out, BS.out⟩
          · have XR := hid (Bx.new wz #[.int .i64 0, .int .u64 0] 76 (by decide))
            have BR := hid (nxB DZ.out (allocB wz (.cells #[.int .i64 0, .int .u64 0] 76)))
            have RL := hid (show w5.heap.size ≤ wz.heap.size from DZ.out.size)
            go_simp
            (try go_wp2_with fail)
            refine hK.out _ _ (SS.out _ BR.out) (fun hX => ?_)
            clear hK K9 hHeld
            have hHeld := hX
            clear hX
            try simp only [Act.put, List.setIfInBounds_toArray, List.set_cons_zero, List.set_cons_succ]
            generalize World.alloc wz _ = w7 at *
            generalize wz.heap.size = r at *
            refine wpAnyH_ready (rs := [6]) (by kernel_rfl) (by simp) ?_
            refine cons2 rfl rfl (fun K9 hK => ?_)
            go_simp
            (with_reducible refine Calls.mono (KS.out w7 BR.out) ?_)
            rintro e w6 ⟨rfl, bq⟩
            have B_w6 := hid (nxB BR.out bq)
            have XR := hid (Bx.next XR.out bq)
            clear bq BR
            have BR := hid B_w6.out
            (try go_wp2_with fail)
            refine hK.out _ _ (SS.out w6 B_w6.out) (fun hX => ?_)
            clear hK K9 hHeld
            have hHeld := hX
            clear hX
            try simp only [Act.put, List.setIfInBounds_toArray, List.set_cons_zero, List.set_cons_succ]
            refine tk 7 (.tuple #[.agg #[.int .i64 (-1), .int .u64 0], .bool ok]) 43 rfl rfl rfl (by kernel_rfl) (fun _ _ _ h => h) (by rfl) hHeld ?_ ?_
            · (intro W hW; (try dsimp only at hW); go_simp)
            try simp only [Act.put, List.setIfInBounds_toArray, List.set_cons_zero, List.set_cons_succ]
            refine tk 8 (.agg #[.int .i64 (-1), .int .u64 0]) 51 rfl rfl rfl (by kernel_rfl) (fun _ _ _ h => h) (by rfl) hHeld ?_ ?_
            · (intro W hW; (try dsimp only at hW); go_simp)
            try simp only [Act.put, List.setIfInBounds_toArray, List.set_cons_zero, List.set_cons_succ]
            refine tk 9 (.bool ok) 52 rfl rfl rfl (by kernel_rfl) (fun _ _ _ h => h) (by rfl) hHeld ?_ ?_
            · (intro W hW; (try dsimp only at hW); go_simp)
            try simp only [Act.put, List.setIfInBounds_toArray, List.set_cons_zero, List.set_cons_succ]
            generalize hw7 : w6 = w7b at *
            clear hw7
            obtain ⟨r0, r1⟩ := Bx.q2 XR.out
            have rz := Bx.fz2 XR.out
            have XS := hid (show Bx ((w7b.setCell ⟨r, 0, none⟩ (.int .i64 (-1))).setCell ⟨r, 1, none⟩ (.int .u64 0)) r 76 #[.int .i64 (-1), .int .u64 0] from Bx.set (Bx.set XR.out 0 (.int .i64 (-1))) 1 (.int .u64 0))
            have BS := hid (show Below w5.heap.size w5 ((w7b.setCell ⟨r, 0, none⟩ (.int .i64 (-1))).setCell ⟨r, 1, none⟩ (.int .u64 0)) from (((Kx.of [r] BR.out).set (p := r) (i := 0) (.int .i64 (-1)) (by simp)).set (p := r) (i := 1) (.int .u64 0) (by simp)).bel (Nat.le_refl _) (fun i hi => by simp at hi; subst hi; exact RL.out))
            refine wpAnyH_ready (rs := [11]) (by kernel_rfl) (by simp) ?_
            refine cons2 rfl rfl (fun K9 hK => ?_)
            go_simp
            (try go_wp2_with fail)
            refine hK.out _ _ (SS.out _ BS.out) (fun hX => ?_)
            clear hK K9 hHeld
            have hHeld := hX
            clear hX
            try simp only [Act.put, List.setIfInBounds_toArray, List.set_cons_zero, List.set_cons_succ]
            refine tk 12 (.bool ok) 14 rfl rfl rfl (by kernel_rfl) (fun _ _ _ h => h) (by rfl) hHeld ?_ ?_
            · (intro W hW; (try dsimp only at hW); go_simp)
            try simp only [Act.put, List.setIfInBounds_toArray, List.set_cons_zero, List.set_cons_succ]
            refine wpAnyH_done (by kernel_rfl) ?_ _
            generalize ((World.setCell (World.setCell _ ⟨r, 0, none⟩ _) ⟨r, 1, none⟩ _)) = w9 at *
            go_wp2_with fail
            go_meet
            exact ⟨rfl, r, rfl, XS.out, RL.out, BS.out⟩
        case rest =>
          obtain ⟨rfl, HCU⟩ := hcut
          obtain ⟨r, rfl, xr, rl, bs⟩ := HCU.out
          clear HCU
          have F6 := hid (F5.out.next bs)
          have X6 := hid (Bx.next X5.out bs)
          have R6 := hid xr
          have RN := hid (show r ≠ sb ∧ r ≠ kb from by have := F5.out.sa.ne; omega)
          clear xr rl bs F5 X5 x0 x1 x2 x3 h1 h2 h3 ha
          cases ok with
          | false =>
            have EG := hid (show G = some i from by
              have := RE.out
              rw [if_neg (by decide)] at this
              exact this.symm)
            have zi : ((i : Int) == -1) = false := by simp
            go_wp2_with fail
            try rw [Exit.noGoto_ret]
            go_returns
            rw [EG.out]
            exact ⟨rfl, F6.out.kx.bel (Nat.le_refl _) (fun i hi => by simp at hi; rcases hi with e | e <;> subst e; exact SBK.out.1; exact SBK.out.2.1)⟩
          | true =>
            have RC := hid (show rnO all (p.co.drop (i + 1)) (i + 1) (gnF (onwF i x) kn) = G from by
              have := RE.out
              rw [if_pos rfl] at this
              exact this)
            have HTS := hid (HO.out i x HX.out)
            have KO := hid (onward_any (T0.out.next F6.out.bl) i (by have := N6.out; omega) x)
            have DW := hid (And.intro F6.out.sa.ne.2.1 F6.out.sa.ne.2.2)
            obtain ⟨ts, hts⟩ : ∃ ts, onwF i x = ts := ⟨_, rfl⟩
            have HTL := hid hts
            rw [hts] at RC HTS KO
            obtain ⟨x0, x1, x2, x3⟩ := Bx.q4 X6.out
            clear hts
            go_wp2_with (go_at_call 50; (with_reducible refine Calls.mono KO.out ?_); rintro e w7 ⟨⟨ta, tc, rfl, tv, tn⟩, b7⟩; have V7 := hid tv; have N7 := hid tn; have F8 := hid (F6.out.next b7); have R7 := hid (Bx.next R6.out b7); clear tv tn b7 KO)
            clear x0 x1 x2 x3
            have lt2 : (ts.length : Int) ≤ 1000 := by have := onw_len i x; rw [HTL.out] at this; omega
            go_loopg [10, 60] (ts.length) (fun g fv kv wr => ∃ (m : Nat) (kj : List Bool), m ≤ ts.length ∧ g = ts.length - m ∧ fv = .int .i64 (-1) ∧ kv = .int .i64 (m : Nat) ∧ Hid (FJ W0 w wr sb kb s.m6 kj) ∧ Hid (Kx [sb, kb] w7 wr) ∧ Hid (gnF (ts.drop m) kj = gnF ts kn))
            case atStart => exact ⟨0, kn, Nat.zero_le _, rfl, rfl, rfl, F8.out, Kx.refl _ _, rfl⟩
            case round =>
              obtain ⟨m, kj, hm, rfl, rfl, rfl, JF, JK, JG⟩ := hrel
              by_cases qm : m < ts.length
              · have qm' : (m : Int) < (ts.length : Int) := by omega
                obtain ⟨tg, tq, tt, rfl, htt, hcc, _⟩ := V7.out.get qm
                have cc : wr.cell? ⟨tg, tq + m, none⟩ = some (.int .i64 tt) := by
                  have := JK.out.cell (by have a := N7.out _ rfl; have b := DW.out; simp at a ⊢; omega) hcc
                  rw [Nat.mul_one] at this
                  exact this
                obtain ⟨t0, t1⟩ := HTS.out tt (List.mem_of_getElem? htt)
                obtain ⟨tn, rfl⟩ : ∃ tn : Nat, tt = tn := ⟨tt.toNat, by omega⟩
                have tl : tn < s.m6 := by omega
                have JE := hid (show gnF (ts.drop (m + 1)) (kj.set tn true) = gnF ts kn from by
                  rw [← JG.out, List.drop_eq_getElem_cons qm, (List.getElem?_eq_some_iff.1 htt).2]
                  rfl)
                obtain ⟨o9, h9⟩ : ∃ o9, kj[tn]? = some o9 := ⟨_, List.getElem?_eq_getElem (by rw [JF.out.ln]; exact tl)⟩
                have H9 := hid h9
                clear htt hcc h9
                go_upto_region 15 with fail
                obtain ⟨u1, u3, u2⟩ := JF.out.sa.cs tn o9 H9.out
                obtain ⟨r0, r1⟩ := Bx.q2 (Bx.kx R7.out JK.out (by simp; exact RN.out))
                cases o9 with
                | false =>
                  rw [if_neg (by decide)] at u1
                  go_quiet (fail)
                  have DQ := hid (dwB wr nq)
                  have JF := hid (JF.out.next DQ.out)
                  have JK := hid (JK.out.next DQ.out)
                  clear u1 u2 u3 r0 r1 cc DQ
                  generalize wr.drewN nq = wr at *
                  obtain ⟨u1, u3, u2⟩ := JF.out.sa.cs tn _ H9.out
                  obtain ⟨r0, r1⟩ := Bx.q2 (Bx.kx R7.out JK.out (by simp; exact RN.out))
                  have f1 := fun j => (JF.out.sa.fz j).1
                  have f2 := fun j => (JF.out.sa.fz j).2
                  have nn : sb ≠ kb := JF.out.sa.ne.1
                  have nn2 : kb ≠ sb := fun e => nn e.symm
                  have FS2 := hid (JF.out.set WS.out.1 WS.out.2 tl)
                  have KS2 := hid (JK.out.trans (setB_kx wr sb kb tn))
                  unfold setB at FS2 KS2
                  go_wp2_with fail
                  go_roundg (ts.length - (m + 1))
                  case measure => omega
                  case rel => exact ⟨m + 1, _, by omega, rfl, rfl, by rw [Int.natCast_add]; rfl, FS2.out, KS2.out, JE.out⟩
                | true =>
                  rw [if_pos rfl] at u1
                  go_quiet (fail)
                  have DQ := hid (dwB wr nq)
                  have JF := hid (JF.out.next DQ.out)
                  have JK := hid (JK.out.next DQ.out)
                  clear u1 u2 u3 r0 r1 cc DQ
                  generalize wr.drewN nq = wr at *
                  obtain ⟨u1, u3, u2⟩ := JF.out.sa.cs tn _ H9.out
                  obtain ⟨r0, r1⟩ := Bx.q2 (Bx.kx R7.out JK.out (by simp; exact RN.out))
                  have f1 := fun j => (JF.out.sa.fz j).1
                  have f2 := fun j => (JF.out.sa.fz j).2
                  have nn : sb ≠ kb := JF.out.sa.ne.1
                  have nn2 : kb ≠ sb := fun e => nn e.symm
                  have FS2 := hid (JF.out.set WS.out.1 WS.out.2 tl)
                  have KS2 := hid (JK.out.trans (setB_kx wr sb kb tn))
                  unfold setB at FS2 KS2
                  go_wp2_with fail
                  go_roundg (ts.length - (m + 1))
                  case measure => omega
                  case rel => exact ⟨m + 1, _, by omega, rfl, rfl, by rw [Int.natCast_add]; rfl, FS2.out, KS2.out, JE.out⟩
              · have qm' : ¬ (m : Int) < (ts.length : Int) := by omega
                have RD := hid (show rnO all (p.co.drop (i + 1)) (i + 1) kj = G from by
                  have := RC.out
                  have e : gnF (ts.drop m) kj = kj := by rw [List.drop_of_length_le (show ts.length ≤ m by omega)]; rfl
                  rw [← JG.out, e] at this
                  exact this)
                go_wp2_with fail
                go_roundg (s.m6 - (i + 1))
                case measure => omega
                case rel => exact ⟨i + 1, kj, by omega, rfl, rfl, by rw [Int.natCast_add]; rfl, JF.out, RD.out⟩
    · have q' : ¬ (i : Int) < (s.m6 : Int) := by omega
      have HE := hid (show G = none from by
        have := HG.out
        rw [List.drop_of_length_le (by have := L.out; omega)] at this
        exact this.symm)
      go_wp2_with fail
      try rw [Exit.noGoto_ret]
      go_returns
      rw [HE.out]
      exact ⟨rfl, HF.out.kx.bel (Nat.le_refl _) (fun i hi => by simp at hi; rcases hi with e | e <;> subst e; exact SBK.out.1; exact SBK.out.2.1)⟩

end Go.Proofs.YtjkbiglnpoeddaaDoor.Vf
