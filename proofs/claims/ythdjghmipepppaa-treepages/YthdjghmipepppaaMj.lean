/- The walk over package page: splitBranch. -/
import Derived.Test.YthdjghmipepppaaMi
import Derived.Test.YthdjghmipepppaaMd
namespace Go.Proofs.Ythdjghmipepppaa
open Go.RowKit
set_option linter.unusedVariables false
set_option linter.unusedSimpArgs false

set_option maxRecDepth 100000 in
set_option maxHeartbeats 8000000 in
theorem splitBranch_any (v : Value) (p : Pg) (w : World) (h : Pv w v p) (f : Bd p) (hl : p.leaf = false) (hv : p.vals = []) (hk : p.kids.length = p.keys.length + 1) (h3n : 3 ≤ p.keys.length) :
    Calls Try.prog 86 #[v] w fun e w' => NewT w w' e (brA p) (kAt p.keys (p.keys.length / 2)) (brB p) := by
  have PK := h.kid
  obtain ⟨ka, kn, kc, va, vn, vc, ia, im, ic, rfl, h1, h2, h3⟩ := h.ex
  obtain ⟨lf, ks, vs, is⟩ := p
  unfold brA brB
  simp only at h1 h2 h3 hl hv hk h3n PK ⊢
  subst hl hv
  have l1 := h1.slen
  have l3 := h3.klen
  have b1 := f.keys
  simp only at b1
  obtain ⟨kb, ko, rfl, _⟩ := h1.at (by omega)
  obtain ⟨ib, io, rfl, _⟩ := h3.at (by omega)
  have fk := h1.fits
  have fi := h3.fits
  obtain ⟨A, hA⟩ : ∃ A, A = ks.length / 2 := ⟨_, rfl⟩
  rw [← hA]
  obtain ⟨J, hJ⟩ : ∃ J, J = A + 1 := ⟨_, rfl⟩
  rw [← hJ]
  have n1 : kn ≤ 90000 := by omega
  have n2 : im ≤ 90001 := by omega
  have n3 : A < kn := by omega
  have n4 : J < im := by omega
  have n5 : J ≤ kn := by omega
  have n6 : A ≤ 45000 := by omega
  have n7 : J ≤ 45001 := by omega
  have dA : (kn : Int) / 2 = (A : Int) := by omega
  have dJ : (A : Int) + 1 = (J : Int) := by omega
  have dM : ¬ (im : Int) < (J : Int) := by omega
  have dM2 : min (J : Int) (im : Int) = (J : Int) := by omega
  have wA : IntKind.i64.wrap (A : Int) = (A : Int) := by rw [IntKind.wrap_i64]; omega
  have wJ : IntKind.i64.wrap (J : Int) = (J : Int) := by rw [IntKind.wrap_i64]; omega
  have cA : (A : Int) < (kn : Int) := by omega
  have U1 := cut_upto Try.underlying52 strInfo kb ko kn kc A _ rfl (by omega)
  have U2 := cut_upto Try.underlying39 u64Info ib io im ic J _ rfl (by omega)
  obtain ⟨O1, U3, ho1⟩ := cut_from Try.underlying52 strInfo kb ko kn kc J _ rfl (by omega) fk
  obtain ⟨O2, U4, ho2⟩ := cut_from Try.underlying39 u64Info ib io im ic J _ rfl (by omega) fi
  have HH : Hid (∀ W, Below w.heap.size w W → (Sl W (some ⟨kb, ko, none⟩) A kc (sv (ks.take A)) ∧ Sl W (some ⟨ib, io, none⟩) J ic (kv (is.take J))) ∧ (Sl W (some ⟨kb, O1, none⟩) (kn - J) (kc - J) (sv (ks.drop J)) ∧ Sl W (some ⟨ib, O2, none⟩) (im - J) (ic - J) (kv (is.drop J)))) := fun W b => by
    rw [← sv_take, ← kv_take, ← sv_drop, ← kv_drop]
    exact ⟨⟨(h1.below b).take (by omega), (h3.below b).take (by omega)⟩, (h1.below b).drop (by omega) ho1, (h3.below b).drop (by omega) ho2⟩
  generalize hr1 : kn - J = r1 at *
  generalize hr2 : im - J = r2 at *
  have r1b : r1 ≤ 90000 := by omega
  have r2b : r2 ≤ 90001 := by omega
  clear hr1 hr2
  generalize kc - J = q1 at *
  generalize ic - J = q2 at *
  have KD1 : Hid (∀ k ∈ is.take J, k < 18446744073709551616) := fun k hk => PK k (List.mem_of_mem_take hk)
  have KD2 : Hid (∀ k ∈ is.drop J, k < 18446744073709551616) := fun k hk => PK k (List.mem_of_mem_drop hk)
  have KC : Hid (∀ W, Below w.heap.size w W → W.cell? ⟨kb, ko + A, none⟩ = some (.string (kAt ks A))) := fun W b => (h1.below b).str (by omega)
  have C0 : Hid (R2z w (.bool false) (.slice (some ⟨kb, ko, none⟩) kn kc) (.slice va vn vc) (.slice (some ⟨ib, io, none⟩) im ic) (((w.alloc (.cells #[.bool false, .slice (some ⟨kb, ko, none⟩) kn kc, .slice va vn vc, .slice (some ⟨ib, io, none⟩) im ic] 54)).alloc (.cells #[.bool false, .slice none 0 0, .slice none 0 0, .slice none 0 0] 54)).alloc (.cells #[.bool false, .slice none 0 0, .slice none 0 0, .slice none 0 0] 54))) := R2z.new w _ _ _ _ _ _ _
  clear h h1 h2 h3 f l1 l3 hk h3n PK hA hJ ho1 ho2 b1 fk fi n3 n5
  go_enter Try.func86, Try.ntmps86
  go_upto_region 1 with fail
  generalize ((w.alloc (.cells #[.bool false, .slice (some ⟨kb, ko, none⟩) kn kc, .slice va vn vc, .slice (some ⟨ib, io, none⟩) im ic] 54)).alloc (.cells #[.bool false, .slice none 0 0, .slice none 0 0, .slice none 0 0] 54)).alloc (.cells #[.bool false, .slice none 0 0, .slice none 0 0, .slice none 0 0] 54) = wm at *
  have R1 : Hid _ := C0.out
  clear C0
  have x0 := R1.out.box.a0
  have x1 := R1.out.box.a1
  have x2 := R1.out.box.a2
  have x3 := R1.out.box.a3
  go_upto_region 3 with fail
  clear x0 x1 x2 x3
  go_cut [7] from 19 to 29 (fun s wx => ∃ (C : Nat) (ax : Option Addr) (mx cx : Nat) (dx : Option Addr) (nx fx : Nat) (gx : Option Addr) (ox hx : Nat), s = .pointer (some ⟨C, 0, none⟩) ∧ Hid (Bp wx C ax mx cx dx nx fx gx ox hx ⟨false, ks.take A, [], is.take J⟩ ∧ Below wm.heap.size wm wx ∧ wm.heap.size ≤ C))
  case first =>
    refine wp_region_held_drew (S := (fun W => W.cell? ⟨w.heap.size, 0, none⟩ = some (.bool false) ∧ W.cell? ⟨w.heap.size, 1, none⟩ = some (.slice (some ⟨kb, ko, none⟩) kn kc) ∧ W.cell? ⟨w.heap.size, 2, none⟩ = some (.slice va vn vc) ∧ W.cell? ⟨w.heap.size, 3, none⟩ = some (.slice (some ⟨ib, io, none⟩) im ic))) (by kernel_rfl) (s4_of (R1.out.next (Below.refl _ _).drew).box) (fun hHeld => ?_)
    have R2 : Hid _ := R1.out.next (Below.refl wm.heap.size wm).drew
    have BZ : Hid (Below wm.heap.size wm wm.drew) := (Below.refl _ _).drew
    generalize wm.drew = wz at *
    refine take2 rfl (i := 0) (v := .pointer (some ⟨w.heap.size, 1, none⟩)) (d := 19) rfl rfl (by kernel_rfl) (by kernel_rfl) (by kernel_rfl) (fun _ _ _ h => h) (Or.inl ⟨by rfl, ?_⟩) hHeld ?_
    · (intro W hW; (try dsimp only at hW); go_simp)
    try simp only [Act.put, List.setIfInBounds_toArray, List.set_cons_zero, List.set_cons_succ]
    refine take2 rfl (i := 1) (v := .slice (some ⟨kb, ko, none⟩) kn kc) (d := 20) rfl rfl (by kernel_rfl) (by kernel_rfl) (by kernel_rfl) (fun _ _ _ h => h) (Or.inl ⟨by rfl, ?_⟩) hHeld ?_
    · (intro W hW; (try dsimp only at hW); go_simp)
    try simp only [Act.put, List.setIfInBounds_toArray, List.set_cons_zero, List.set_cons_succ]
    refine take2 rfl (i := 2) (v := .int .i64 (A : Nat)) (d := 21) rfl rfl (by kernel_rfl) (by kernel_rfl) (by kernel_rfl) (fun _ _ _ h => h) (Or.inl ⟨by rfl, ?_⟩) hHeld ?_
    · (intro W hW; (try dsimp only at hW); go_simp)
    try simp only [Act.put, List.setIfInBounds_toArray, List.set_cons_zero, List.set_cons_succ]
    refine take2 rfl (i := 3) (v := .slice (some ⟨kb, ko, none⟩) A kc) (d := 22) rfl rfl (by kernel_rfl) (by kernel_rfl) (by kernel_rfl) (fun _ _ _ h => h) (Or.inl ⟨by rfl, ?_⟩) hHeld ?_
    · (intro W hW; (try dsimp only at hW); go_simp)
    try simp only [Act.put, List.setIfInBounds_toArray, List.set_cons_zero, List.set_cons_succ]
    refine take2 rfl (i := 5) (v := .pointer (some ⟨w.heap.size, 3, none⟩)) (d := 24) rfl rfl (by kernel_rfl) (by kernel_rfl) (by kernel_rfl) (fun _ _ _ h => h) (Or.inl ⟨by rfl, ?_⟩) hHeld ?_
    · (intro W hW; (try dsimp only at hW); go_simp)
    try simp only [Act.put, List.setIfInBounds_toArray, List.set_cons_zero, List.set_cons_succ]
    refine take2 rfl (i := 6) (v := .slice (some ⟨ib, io, none⟩) im ic) (d := 25) rfl rfl (by kernel_rfl) (by kernel_rfl) (by kernel_rfl) (fun _ _ _ h => h) (Or.inl ⟨by rfl, ?_⟩) hHeld ?_
    · (intro W hW; (try dsimp only at hW); go_simp)
    try simp only [Act.put, List.setIfInBounds_toArray, List.set_cons_zero, List.set_cons_succ]
    refine take2 rfl (i := 7) (v := .int .i64 (J : Nat)) (d := 26) rfl rfl (by kernel_rfl) (by kernel_rfl) (by kernel_rfl) (fun _ _ _ h => h) (Or.inl ⟨by rfl, ?_⟩) hHeld ?_
    · (intro W hW; (try dsimp only at hW); go_simp)
    try simp only [Act.put, List.setIfInBounds_toArray, List.set_cons_zero, List.set_cons_succ]
    refine take2 rfl (i := 8) (v := .slice (some ⟨ib, io, none⟩) J ic) (d := 27) rfl rfl (by kernel_rfl) (by kernel_rfl) (by kernel_rfl) (fun _ _ _ h => h) (Or.inl ⟨by rfl, ?_⟩) hHeld ?_
    · (intro W hW; (try dsimp only at hW); go_simp)
    try simp only [Act.put, List.setIfInBounds_toArray, List.set_cons_zero, List.set_cons_succ]
    refine wpAnyH_ready (rs := [4, 11]) (by kernel_rfl) (by simp) ?_
    refine cons22 rfl rfl rfl (fun K9 hK => ?_) (fun K9 hK => ?_)
    · go_simp
      go_at_call 63
      refine Calls.mono (cloneS_row _ A kc (sv (ks.take A)) _ ((HH.out _ R2.out.bel).1.1) (by omega)) ?_
      rintro e w3 ⟨a3, m3, c3, rfl, s3, b3⟩
      have R3 : Hid _ := R2.out.next b3
      go_wp2_with fail
      refine hK.out _ _ (s4_of R3.out.box) (fun hX => ?_)
      clear hK K9 hHeld
      have hHeld := hX
      clear hX
      try simp only [Act.put, List.setIfInBounds_toArray, List.set_cons_zero, List.set_cons_succ]
      refine wpAnyH_ready (rs := [9, 11]) (by kernel_rfl) (by simp) ?_
      refine cons22 rfl rfl rfl (fun K9 hK => ?_) (fun K9 hK => ?_)
      · go_simp
        go_at_call 82
        refine Calls.mono (cloneU_row _ J ic (kv (is.take J)) _ ((HH.out _ R3.out.bel).1.2) (by omega)) ?_
        rintro e w4 ⟨a4, m4, c4, rfl, s4, b4⟩
        have R4 : Hid _ := R3.out.next b4
        go_wp2_with fail
        refine hK.out _ _ (s4_of R4.out.box) (fun hX => ?_)
        clear hK K9 hHeld
        have hHeld := hX
        clear hX
        try simp only [Act.put, List.setIfInBounds_toArray, List.set_cons_zero, List.set_cons_succ]
        refine take2 rfl (i := 10) (v := (.agg #[.bool false, .slice a3 m3 c3, .slice none 0 0, .slice a4 m4 c4])) (d := 29) rfl rfl (by kernel_rfl) (by kernel_rfl) (by kernel_rfl) (fun _ _ _ h => h) (Or.inl ⟨by rfl, ?_⟩) hHeld ?_
        · (intro W hW; (try dsimp only at hW); go_simp)
        try simp only [Act.put, List.setIfInBounds_toArray, List.set_cons_zero, List.set_cons_succ]
        refine wpAnyH_ready (rs := [11]) (by kernel_rfl) (by simp) ?_
        refine cons2 rfl rfl (fun K9 hK => ?_)
        go_simp
        have PQ : Hid (Pv w4 (.agg #[.bool false, .slice a3 m3 c3, .slice none 0 0, .slice a4 m4 c4]) ⟨false, ks.take A, [], is.take J⟩) := Pv.mk' (s3.below b4) (Sl.empty _) s4 KD1.out
        have FIN : Hid _ := And.intro (Bp.mk1 (p := ⟨false, ks.take A, [], is.take J⟩) (w := w4) PQ.out 54) (nextB (nextB (nextB BZ.out b3) b4) (allocB w4 (.cells #[.bool false, .slice a3 m3 c3, .slice none 0 0, .slice a4 m4 c4] 54)))
        simp only at FIN
        have RA : Hid _ := R4.out.next (allocB w4 (.cells #[.bool false, .slice none 0 0, .slice none 0 0, .slice none 0 0] 54))
        have RB : Hid _ := R4.out.next (allocB w4 (.cells #[.bool false, .slice a3 m3 c3, .slice none 0 0, .slice a4 m4 c4] 54))
        refine hK.out _ _ (s4_of RA.out.box) (fun hX => ?_)
        clear hK K9 hHeld
        have hHeld := hX
        clear hX
        try simp only [Act.put, List.setIfInBounds_toArray, List.set_cons_zero, List.set_cons_succ]
        refine wpAnyH_ready (rs := [12]) (by kernel_rfl) (by simp) ?_
        refine cons2 rfl rfl (fun K9 hK => ?_)
        go_simp
        refine hK.out _ _ (s4_of RB.out.box) (fun hX => ?_)
        try simp only [Act.put, List.setIfInBounds_toArray, List.set_cons_zero, List.set_cons_succ]
        refine wpAnyH_done (by kernel_rfl) ?_ _
        go_wp2
        go_meet
        exact ⟨_, _, _, _, _, _, _, _, _, _, rfl, FIN.out.1, FIN.out.2, (nextB (nextB BZ.out b3) b4).size⟩
      · go_simp
        have Z4 : Hid _ := And.intro (allocB w3 (.cells #[.bool false, .slice none 0 0, .slice none 0 0, .slice none 0 0] 54)) (Bp.mk1 (p := zeroP) (w := w3) (pvZ _) 54)
        simp only [zeroP] at Z4
        have R4 : Hid _ := R3.out.next Z4.out.1
        refine hK.out _ _ (s4_of R4.out.box) (fun hX => ?_)
        clear hK K9 hHeld
        have hHeld := hX
        clear hX
        try simp only [Act.put, List.setIfInBounds_toArray, List.set_cons_zero, List.set_cons_succ]
        generalize w3.alloc (.cells #[.bool false, .slice none 0 0, .slice none 0 0, .slice none 0 0] 54) = w4 at *
        refine wpAnyH_ready (rs := [9]) (by kernel_rfl) (by simp) ?_
        refine cons2 rfl rfl (fun K9 hK => ?_)
        go_simp
        go_at_call 82
        refine Calls.mono (cloneU_row _ J ic (kv (is.take J)) _ ((HH.out _ R4.out.bel).1.2) (by omega)) ?_
        rintro e w5 ⟨a5, m5, c5, rfl, s5, b5⟩
        have R5 : Hid _ := R4.out.next b5
        go_wp2_with fail
        refine hK.out _ _ (s4_of R5.out.box) (fun hX => ?_)
        clear hK K9 hHeld
        have hHeld := hX
        clear hX
        try simp only [Act.put, List.setIfInBounds_toArray, List.set_cons_zero, List.set_cons_succ]
        refine take2 rfl (i := 10) (v := (.agg #[.bool false, .slice a3 m3 c3, .slice none 0 0, .slice a5 m5 c5])) (d := 29) rfl rfl (by kernel_rfl) (by kernel_rfl) (by kernel_rfl) (fun _ _ _ h => h) (Or.inl ⟨by rfl, ?_⟩) hHeld ?_
        · (intro W hW; (try dsimp only at hW); go_simp)
        try simp only [Act.put, List.setIfInBounds_toArray, List.set_cons_zero, List.set_cons_succ]
        have PQ : Hid (Pv w5 (.agg #[.bool false, .slice a3 m3 c3, .slice none 0 0, .slice a5 m5 c5]) ⟨false, ks.take A, [], is.take J⟩) := Pv.mk' ((s3.below Z4.out.1).below b5) (Sl.empty _) s5 KD1.out
        have ZZ : Hid _ := Z4.out.2.below b5
        obtain ⟨x0, x1, x2, x3⟩ := ZZ.out.b4
        have zf := ZZ.out.fz
        have FIN : Hid _ := ZZ.out.put (q := ⟨false, ks.take A, [], is.take J⟩) PQ.out
        unfold st4 at FIN
        simp only at FIN
        have BF : Hid _ := (nextB (nextB (nextB BZ.out b3) Z4.out.1) b5).grown FIN.out.2 (nextB (nextB (nextB BZ.out b3) Z4.out.1) b5).size (fun k hk => by cases hk; exact (Nat.le_trans BZ.out.size b3.size))
        have BX := R5.out.box.grown FIN.out.2 (fun e => by injection e with e; have := R1.out.box.lt; have := (Nat.le_trans BZ.out.size b3.size); omega)
        refine wpAnyH_ready (rs := [12]) (by kernel_rfl) (by simp) ?_
        refine cons2 rfl rfl (fun K9 hK => ?_)
        go_simp
        refine hK.out _ _ (s4_of BX) (fun hX => ?_)
        try simp only [Act.put, List.setIfInBounds_toArray, List.set_cons_zero, List.set_cons_succ]
        refine wpAnyH_done (by kernel_rfl) ?_ _
        go_wp2
        go_meet
        exact ⟨_, _, _, _, _, _, _, _, _, _, rfl, FIN.out.1, BF.out, (Nat.le_trans BZ.out.size b3.size)⟩
    · go_simp
      have Z3 : Hid _ := And.intro (allocB wz (.cells #[.bool false, .slice none 0 0, .slice none 0 0, .slice none 0 0] 54)) (Bp.mk1 (p := zeroP) (w := wz) (pvZ _) 54)
      simp only [zeroP] at Z3
      have R3 : Hid _ := R2.out.next Z3.out.1
      refine hK.out _ _ (s4_of R3.out.box) (fun hX => ?_)
      clear hK K9 hHeld
      have hHeld := hX
      clear hX
      try simp only [Act.put, List.setIfInBounds_toArray, List.set_cons_zero, List.set_cons_succ]
      generalize wz.alloc (.cells #[.bool false, .slice none 0 0, .slice none 0 0, .slice none 0 0] 54) = w3 at *
      refine wpAnyH_ready (rs := [4]) (by kernel_rfl) (by simp) ?_
      refine cons2 rfl rfl (fun K9 hK => ?_)
      go_simp
      go_at_call 63
      refine Calls.mono (cloneS_row _ A kc (sv (ks.take A)) _ ((HH.out _ R3.out.bel).1.1) (by omega)) ?_
      rintro e w4 ⟨a4, m4, c4, rfl, s4, b4⟩
      have R4 : Hid _ := R3.out.next b4
      go_wp2_with fail
      refine hK.out _ _ (s4_of R4.out.box) (fun hX => ?_)
      clear hK K9 hHeld
      have hHeld := hX
      clear hX
      try simp only [Act.put, List.setIfInBounds_toArray, List.set_cons_zero, List.set_cons_succ]
      refine wpAnyH_ready (rs := [9]) (by kernel_rfl) (by simp) ?_
      refine cons2 rfl rfl (fun K9 hK => ?_)
      go_simp
      go_at_call 82
      refine Calls.mono (cloneU_row _ J ic (kv (is.take J)) _ ((HH.out _ R4.out.bel).1.2) (by omega)) ?_
      rintro e w5 ⟨a5, m5, c5, rfl, s5, b5⟩
      have R5 : Hid _ := R4.out.next b5
      go_wp2_with fail
      refine hK.out _ _ (s4_of R5.out.box) (fun hX => ?_)
      clear hK K9 hHeld
      have hHeld := hX
      clear hX
      try simp only [Act.put, List.setIfInBounds_toArray, List.set_cons_zero, List.set_cons_succ]
      refine take2 rfl (i := 10) (v := (.agg #[.bool false, .slice a4 m4 c4, .slice none 0 0, .slice a5 m5 c5])) (d := 29) rfl rfl (by kernel_rfl) (by kernel_rfl) (by kernel_rfl) (fun _ _ _ h => h) (Or.inl ⟨by rfl, ?_⟩) hHeld ?_
      · (intro W hW; (try dsimp only at hW); go_simp)
      try simp only [Act.put, List.setIfInBounds_toArray, List.set_cons_zero, List.set_cons_succ]
      have PQ : Hid (Pv w5 (.agg #[.bool false, .slice a4 m4 c4, .slice none 0 0, .slice a5 m5 c5]) ⟨false, ks.take A, [], is.take J⟩) := Pv.mk' (s4.below b5) (Sl.empty _) s5 KD1.out
      have ZZ : Hid _ := (Z3.out.2.below b4).below b5
      obtain ⟨x0, x1, x2, x3⟩ := ZZ.out.b4
      have zf := ZZ.out.fz
      have FIN : Hid _ := ZZ.out.put (q := ⟨false, ks.take A, [], is.take J⟩) PQ.out
      unfold st4 at FIN
      simp only at FIN
      have BF : Hid _ := (nextB (nextB (nextB BZ.out Z3.out.1) b4) b5).grown FIN.out.2 (nextB (nextB (nextB BZ.out Z3.out.1) b4) b5).size (fun k hk => by cases hk; exact BZ.out.size)
      have BX := R5.out.box.grown FIN.out.2 (fun e => by injection e with e; have := R1.out.box.lt; have := BZ.out.size; omega)
      refine wpAnyH_ready (rs := [12]) (by kernel_rfl) (by simp) ?_
      refine cons2 rfl rfl (fun K9 hK => ?_)
      go_simp
      refine hK.out _ _ (s4_of BX) (fun hX => ?_)
      try simp only [Act.put, List.setIfInBounds_toArray, List.set_cons_zero, List.set_cons_succ]
      refine wpAnyH_done (by kernel_rfl) ?_ _
      go_wp2
      go_meet
      exact ⟨_, _, _, _, _, _, _, _, _, _, rfl, FIN.out.1, BF.out, BZ.out.size⟩
  case rest =>
    obtain ⟨C1, ax, mx, cx, dx, nx, fx, gx, ox, hx, rfl, hX1⟩ := hcut
    obtain ⟨wn, hwn⟩ : ∃ wn, wn = wc := ⟨_, rfl⟩
    subst hwn
    have R1' : Hid _ := R1.out.next hX1.out.2.1
    have LT : Hid (w.heap.size + 1 + 1 < C1) := by have := R1.out.rb.b4.lt; have := hX1.out.2.2; show _ < _; omega
    have BA : Hid _ := hX1.out.1
    clear R1 hX1
    have R1 : Hid _ := R1'.out
    clear R1'
    go_upto_region 4 with fail
    go_cut [8] from 30 to 41 (fun s wx => ∃ (C : Nat) (ay : Option Addr) (my cy : Nat) (dy : Option Addr) (ny fy : Nat) (gy : Option Addr) (oy hy : Nat), s = .pointer (some ⟨C, 0, none⟩) ∧ Hid (Bp wx C ay my cy dy ny fy gy oy hy ⟨false, ks.drop J, [], is.drop J⟩ ∧ Below wn.heap.size wn wx ∧ wn.heap.size ≤ C))
    case first =>
      refine wp_region_held_drew (S := (fun W => W.cell? ⟨w.heap.size, 0, none⟩ = some (.bool false) ∧ W.cell? ⟨w.heap.size, 1, none⟩ = some (.slice (some ⟨kb, ko, none⟩) kn kc) ∧ W.cell? ⟨w.heap.size, 2, none⟩ = some (.slice va vn vc) ∧ W.cell? ⟨w.heap.size, 3, none⟩ = some (.slice (some ⟨ib, io, none⟩) im ic))) (by kernel_rfl) (s4_of (R1.out.next (Below.refl _ _).drew).box) (fun hHeld => ?_)
      have R2 : Hid _ := R1.out.next (Below.refl wn.heap.size wn).drew
      have BZ : Hid (Below wn.heap.size wn wn.drew) := (Below.refl _ _).drew
      generalize wn.drew = wz at *
      refine take2 rfl (i := 0) (v := .pointer (some ⟨w.heap.size, 1, none⟩)) (d := 30) rfl rfl (by kernel_rfl) (by kernel_rfl) (by kernel_rfl) (fun _ _ _ h => h) (Or.inl ⟨by rfl, ?_⟩) hHeld ?_
      · (intro W hW; (try dsimp only at hW); go_simp)
      try simp only [Act.put, List.setIfInBounds_toArray, List.set_cons_zero, List.set_cons_succ]
      refine take2 rfl (i := 1) (v := .slice (some ⟨kb, ko, none⟩) kn kc) (d := 31) rfl rfl (by kernel_rfl) (by kernel_rfl) (by kernel_rfl) (fun _ _ _ h => h) (Or.inl ⟨by rfl, ?_⟩) hHeld ?_
      · (intro W hW; (try dsimp only at hW); go_simp)
      try simp only [Act.put, List.setIfInBounds_toArray, List.set_cons_zero, List.set_cons_succ]
      refine take2 rfl (i := 2) (v := .int .i64 (A : Nat)) (d := 32) rfl rfl (by kernel_rfl) (by kernel_rfl) (by kernel_rfl) (fun _ _ _ h => h) (Or.inl ⟨by rfl, ?_⟩) hHeld ?_
      · (intro W hW; (try dsimp only at hW); go_simp)
      try simp only [Act.put, List.setIfInBounds_toArray, List.set_cons_zero, List.set_cons_succ]
      refine take2 rfl (i := 3) (v := .int .i64 (J : Nat)) (d := 33) rfl rfl (by kernel_rfl) (by kernel_rfl) (by kernel_rfl) (fun _ _ _ h => h) (Or.inl ⟨by rfl, ?_⟩) hHeld ?_
      · (intro W hW; (try dsimp only at hW); go_simp)
      try simp only [Act.put, List.setIfInBounds_toArray, List.set_cons_zero, List.set_cons_succ]
      refine take2 rfl (i := 4) (v := .slice (some ⟨kb, O1, none⟩) r1 q1) (d := 34) rfl rfl (by kernel_rfl) (by kernel_rfl) (by kernel_rfl) (fun _ _ _ h => h) (Or.inl ⟨by rfl, ?_⟩) hHeld ?_
      · (intro W hW; (try dsimp only at hW); go_simp)
      try simp only [Act.put, List.setIfInBounds_toArray, List.set_cons_zero, List.set_cons_succ]
      refine take2 rfl (i := 6) (v := .pointer (some ⟨w.heap.size, 3, none⟩)) (d := 36) rfl rfl (by kernel_rfl) (by kernel_rfl) (by kernel_rfl) (fun _ _ _ h => h) (Or.inl ⟨by rfl, ?_⟩) hHeld ?_
      · (intro W hW; (try dsimp only at hW); go_simp)
      try simp only [Act.put, List.setIfInBounds_toArray, List.set_cons_zero, List.set_cons_succ]
      refine take2 rfl (i := 7) (v := .slice (some ⟨ib, io, none⟩) im ic) (d := 37) rfl rfl (by kernel_rfl) (by kernel_rfl) (by kernel_rfl) (fun _ _ _ h => h) (Or.inl ⟨by rfl, ?_⟩) hHeld ?_
      · (intro W hW; (try dsimp only at hW); go_simp)
      try simp only [Act.put, List.setIfInBounds_toArray, List.set_cons_zero, List.set_cons_succ]
      refine take2 rfl (i := 8) (v := .int .i64 (J : Nat)) (d := 38) rfl rfl (by kernel_rfl) (by kernel_rfl) (by kernel_rfl) (fun _ _ _ h => h) (Or.inl ⟨by rfl, ?_⟩) hHeld ?_
      · (intro W hW; (try dsimp only at hW); go_simp)
      try simp only [Act.put, List.setIfInBounds_toArray, List.set_cons_zero, List.set_cons_succ]
      refine take2 rfl (i := 9) (v := .slice (some ⟨ib, O2, none⟩) r2 q2) (d := 39) rfl rfl (by kernel_rfl) (by kernel_rfl) (by kernel_rfl) (fun _ _ _ h => h) (Or.inl ⟨by rfl, ?_⟩) hHeld ?_
      · (intro W hW; (try dsimp only at hW); go_simp)
      try simp only [Act.put, List.setIfInBounds_toArray, List.set_cons_zero, List.set_cons_succ]
      refine wpAnyH_ready (rs := [5, 12]) (by kernel_rfl) (by simp) ?_
      refine cons22 rfl rfl rfl (fun K9 hK => ?_) (fun K9 hK => ?_)
      · go_simp
        go_at_call 63
        refine Calls.mono (cloneS_row _ r1 q1 (sv (ks.drop J)) _ ((HH.out _ R2.out.bel).2.1) (by omega)) ?_
        rintro e w3 ⟨a3, m3, c3, rfl, s3, b3⟩
        have R3 : Hid _ := R2.out.next b3
        go_wp2_with fail
        refine hK.out _ _ (s4_of R3.out.box) (fun hX => ?_)
        clear hK K9 hHeld
        have hHeld := hX
        clear hX
        try simp only [Act.put, List.setIfInBounds_toArray, List.set_cons_zero, List.set_cons_succ]
        refine wpAnyH_ready (rs := [10, 12]) (by kernel_rfl) (by simp) ?_
        refine cons22 rfl rfl rfl (fun K9 hK => ?_) (fun K9 hK => ?_)
        · go_simp
          go_at_call 82
          refine Calls.mono (cloneU_row _ r2 q2 (kv (is.drop J)) _ ((HH.out _ R3.out.bel).2.2) (by omega)) ?_
          rintro e w4 ⟨a4, m4, c4, rfl, s4, b4⟩
          have R4 : Hid _ := R3.out.next b4
          go_wp2_with fail
          refine hK.out _ _ (s4_of R4.out.box) (fun hX => ?_)
          clear hK K9 hHeld
          have hHeld := hX
          clear hX
          try simp only [Act.put, List.setIfInBounds_toArray, List.set_cons_zero, List.set_cons_succ]
          refine take2 rfl (i := 11) (v := (.agg #[.bool false, .slice a3 m3 c3, .slice none 0 0, .slice a4 m4 c4])) (d := 41) rfl rfl (by kernel_rfl) (by kernel_rfl) (by kernel_rfl) (fun _ _ _ h => h) (Or.inl ⟨by rfl, ?_⟩) hHeld ?_
          · (intro W hW; (try dsimp only at hW); go_simp)
          try simp only [Act.put, List.setIfInBounds_toArray, List.set_cons_zero, List.set_cons_succ]
          refine wpAnyH_ready (rs := [12]) (by kernel_rfl) (by simp) ?_
          refine cons2 rfl rfl (fun K9 hK => ?_)
          go_simp
          have PQ : Hid (Pv w4 (.agg #[.bool false, .slice a3 m3 c3, .slice none 0 0, .slice a4 m4 c4]) ⟨false, ks.drop J, [], is.drop J⟩) := Pv.mk' (s3.below b4) (Sl.empty _) s4 KD2.out
          have FIN : Hid _ := And.intro (Bp.mk1 (p := ⟨false, ks.drop J, [], is.drop J⟩) (w := w4) PQ.out 54) (nextB (nextB (nextB BZ.out b3) b4) (allocB w4 (.cells #[.bool false, .slice a3 m3 c3, .slice none 0 0, .slice a4 m4 c4] 54)))
          simp only at FIN
          have RA : Hid _ := R4.out.next (allocB w4 (.cells #[.bool false, .slice none 0 0, .slice none 0 0, .slice none 0 0] 54))
          have RB : Hid _ := R4.out.next (allocB w4 (.cells #[.bool false, .slice a3 m3 c3, .slice none 0 0, .slice a4 m4 c4] 54))
          refine hK.out _ _ (s4_of RA.out.box) (fun hX => ?_)
          clear hK K9 hHeld
          have hHeld := hX
          clear hX
          try simp only [Act.put, List.setIfInBounds_toArray, List.set_cons_zero, List.set_cons_succ]
          refine wpAnyH_ready (rs := [13]) (by kernel_rfl) (by simp) ?_
          refine cons2 rfl rfl (fun K9 hK => ?_)
          go_simp
          refine hK.out _ _ (s4_of RB.out.box) (fun hX => ?_)
          try simp only [Act.put, List.setIfInBounds_toArray, List.set_cons_zero, List.set_cons_succ]
          refine wpAnyH_done (by kernel_rfl) ?_ _
          go_wp2
          go_meet
          exact ⟨_, _, _, _, _, _, _, _, _, _, rfl, FIN.out.1, FIN.out.2, (nextB (nextB BZ.out b3) b4).size⟩
        · go_simp
          have Z4 : Hid _ := And.intro (allocB w3 (.cells #[.bool false, .slice none 0 0, .slice none 0 0, .slice none 0 0] 54)) (Bp.mk1 (p := zeroP) (w := w3) (pvZ _) 54)
          simp only [zeroP] at Z4
          have R4 : Hid _ := R3.out.next Z4.out.1
          refine hK.out _ _ (s4_of R4.out.box) (fun hX => ?_)
          clear hK K9 hHeld
          have hHeld := hX
          clear hX
          try simp only [Act.put, List.setIfInBounds_toArray, List.set_cons_zero, List.set_cons_succ]
          generalize w3.alloc (.cells #[.bool false, .slice none 0 0, .slice none 0 0, .slice none 0 0] 54) = w4 at *
          refine wpAnyH_ready (rs := [10]) (by kernel_rfl) (by simp) ?_
          refine cons2 rfl rfl (fun K9 hK => ?_)
          go_simp
          go_at_call 82
          refine Calls.mono (cloneU_row _ r2 q2 (kv (is.drop J)) _ ((HH.out _ R4.out.bel).2.2) (by omega)) ?_
          rintro e w5 ⟨a5, m5, c5, rfl, s5, b5⟩
          have R5 : Hid _ := R4.out.next b5
          go_wp2_with fail
          refine hK.out _ _ (s4_of R5.out.box) (fun hX => ?_)
          clear hK K9 hHeld
          have hHeld := hX
          clear hX
          try simp only [Act.put, List.setIfInBounds_toArray, List.set_cons_zero, List.set_cons_succ]
          refine take2 rfl (i := 11) (v := (.agg #[.bool false, .slice a3 m3 c3, .slice none 0 0, .slice a5 m5 c5])) (d := 41) rfl rfl (by kernel_rfl) (by kernel_rfl) (by kernel_rfl) (fun _ _ _ h => h) (Or.inl ⟨by rfl, ?_⟩) hHeld ?_
          · (intro W hW; (try dsimp only at hW); go_simp)
          try simp only [Act.put, List.setIfInBounds_toArray, List.set_cons_zero, List.set_cons_succ]
          have PQ : Hid (Pv w5 (.agg #[.bool false, .slice a3 m3 c3, .slice none 0 0, .slice a5 m5 c5]) ⟨false, ks.drop J, [], is.drop J⟩) := Pv.mk' ((s3.below Z4.out.1).below b5) (Sl.empty _) s5 KD2.out
          have ZZ : Hid _ := Z4.out.2.below b5
          obtain ⟨x0, x1, x2, x3⟩ := ZZ.out.b4
          have zf := ZZ.out.fz
          have FIN : Hid _ := ZZ.out.put (q := ⟨false, ks.drop J, [], is.drop J⟩) PQ.out
          unfold st4 at FIN
          simp only at FIN
          have BF : Hid _ := (nextB (nextB (nextB BZ.out b3) Z4.out.1) b5).grown FIN.out.2 (nextB (nextB (nextB BZ.out b3) Z4.out.1) b5).size (fun k hk => by cases hk; exact (Nat.le_trans BZ.out.size b3.size))
          have BX := R5.out.box.grown FIN.out.2 (fun e => by injection e with e; have := R1.out.box.lt; have := (Nat.le_trans BZ.out.size b3.size); omega)
          refine wpAnyH_ready (rs := [13]) (by kernel_rfl) (by simp) ?_
          refine cons2 rfl rfl (fun K9 hK => ?_)
          go_simp
          refine hK.out _ _ (s4_of BX) (fun hX => ?_)
          try simp only [Act.put, List.setIfInBounds_toArray, List.set_cons_zero, List.set_cons_succ]
          refine wpAnyH_done (by kernel_rfl) ?_ _
          go_wp2
          go_meet
          exact ⟨_, _, _, _, _, _, _, _, _, _, rfl, FIN.out.1, BF.out, (Nat.le_trans BZ.out.size b3.size)⟩
      · go_simp
        have Z3 : Hid _ := And.intro (allocB wz (.cells #[.bool false, .slice none 0 0, .slice none 0 0, .slice none 0 0] 54)) (Bp.mk1 (p := zeroP) (w := wz) (pvZ _) 54)
        simp only [zeroP] at Z3
        have R3 : Hid _ := R2.out.next Z3.out.1
        refine hK.out _ _ (s4_of R3.out.box) (fun hX => ?_)
        clear hK K9 hHeld
        have hHeld := hX
        clear hX
        try simp only [Act.put, List.setIfInBounds_toArray, List.set_cons_zero, List.set_cons_succ]
        generalize wz.alloc (.cells #[.bool false, .slice none 0 0, .slice none 0 0, .slice none 0 0] 54) = w3 at *
        refine wpAnyH_ready (rs := [5]) (by kernel_rfl) (by simp) ?_
        refine cons2 rfl rfl (fun K9 hK => ?_)
        go_simp
        go_at_call 63
        refine Calls.mono (cloneS_row _ r1 q1 (sv (ks.drop J)) _ ((HH.out _ R3.out.bel).2.1) (by omega)) ?_
        rintro e w4 ⟨a4, m4, c4, rfl, s4, b4⟩
        have R4 : Hid _ := R3.out.next b4
        go_wp2_with fail
        refine hK.out _ _ (s4_of R4.out.box) (fun hX => ?_)
        clear hK K9 hHeld
        have hHeld := hX
        clear hX
        try simp only [Act.put, List.setIfInBounds_toArray, List.set_cons_zero, List.set_cons_succ]
        refine wpAnyH_ready (rs := [10]) (by kernel_rfl) (by simp) ?_
        refine cons2 rfl rfl (fun K9 hK => ?_)
        go_simp
        go_at_call 82
        refine Calls.mono (cloneU_row _ r2 q2 (kv (is.drop J)) _ ((HH.out _ R4.out.bel).2.2) (by omega)) ?_
        rintro e w5 ⟨a5, m5, c5, rfl, s5, b5⟩
        have R5 : Hid _ := R4.out.next b5
        go_wp2_with fail
        refine hK.out _ _ (s4_of R5.out.box) (fun hX => ?_)
        clear hK K9 hHeld
        have hHeld := hX
        clear hX
        try simp only [Act.put, List.setIfInBounds_toArray, List.set_cons_zero, List.set_cons_succ]
        refine take2 rfl (i := 11) (v := (.agg #[.bool false, .slice a4 m4 c4, .slice none 0 0, .slice a5 m5 c5])) (d := 41) rfl rfl (by kernel_rfl) (by kernel_rfl) (by kernel_rfl) (fun _ _ _ h => h) (Or.inl ⟨by rfl, ?_⟩) hHeld ?_
        · (intro W hW; (try dsimp only at hW); go_simp)
        try simp only [Act.put, List.setIfInBounds_toArray, List.set_cons_zero, List.set_cons_succ]
        have PQ : Hid (Pv w5 (.agg #[.bool false, .slice a4 m4 c4, .slice none 0 0, .slice a5 m5 c5]) ⟨false, ks.drop J, [], is.drop J⟩) := Pv.mk' (s4.below b5) (Sl.empty _) s5 KD2.out
        have ZZ : Hid _ := (Z3.out.2.below b4).below b5
        obtain ⟨x0, x1, x2, x3⟩ := ZZ.out.b4
        have zf := ZZ.out.fz
        have FIN : Hid _ := ZZ.out.put (q := ⟨false, ks.drop J, [], is.drop J⟩) PQ.out
        unfold st4 at FIN
        simp only at FIN
        have BF : Hid _ := (nextB (nextB (nextB BZ.out Z3.out.1) b4) b5).grown FIN.out.2 (nextB (nextB (nextB BZ.out Z3.out.1) b4) b5).size (fun k hk => by cases hk; exact BZ.out.size)
        have BX := R5.out.box.grown FIN.out.2 (fun e => by injection e with e; have := R1.out.box.lt; have := BZ.out.size; omega)
        refine wpAnyH_ready (rs := [13]) (by kernel_rfl) (by simp) ?_
        refine cons2 rfl rfl (fun K9 hK => ?_)
        go_simp
        refine hK.out _ _ (s4_of BX) (fun hX => ?_)
        try simp only [Act.put, List.setIfInBounds_toArray, List.set_cons_zero, List.set_cons_succ]
        refine wpAnyH_done (by kernel_rfl) ?_ _
        go_wp2
        go_meet
        exact ⟨_, _, _, _, _, _, _, _, _, _, rfl, FIN.out.1, BF.out, BZ.out.size⟩
    case rest =>
      obtain ⟨C2, ay, my, cy, dy, ny, fy, gy, oy, hy, rfl, hX2⟩ := hcut
      obtain ⟨wp, hwp⟩ : ∃ wp, wp = wc := ⟨_, rfl⟩
      subst hwp
      have RP : Hid _ := R1.out.next hX2.out.2.1
      have LT2 : Hid (w.heap.size + 1 + 1 < C2) := by have := R1.out.rb.b4.lt; have := hX2.out.2.2; show _ < _; omega
      have BA2 : Hid _ := BA.out.below hX2.out.2.1
      have BB2 : Hid _ := hX2.out.1
      clear R1 BA hX2
      go_upto_region 5 with fail
      have RZ : Hid _ := RP.out.next (Below.refl wp.heap.size wp).drew
      have PA : Hid _ := BA2.out.below (Below.refl wp.heap.size wp).drew
      have PB : Hid _ := BB2.out.below (Below.refl wp.heap.size wp).drew
      clear RP BA2 BB2
      have G1 : Hid _ := RZ.out.ra.put (q := ⟨false, ks.take A, [], is.take J⟩) PA.out.pv
      have RZ1 : Hid _ := RZ.out.rb.far RZ.out.ra G1.out.2 (by omega)
      have PA1 : Hid _ := PA.out.far RZ.out.ra G1.out.2 (by have := LT.out; omega)
      have PB1 : Hid _ := PB.out.far RZ.out.ra G1.out.2 (by have := LT2.out; omega)
      have BX1 : Hid _ := RZ.out.box.grown G1.out.2 (fun e => by injection e with e; omega)
      have BL1 : Hid _ := RZ.out.bel.grown G1.out.2 RZ.out.bel.size (fun k hk => by cases hk; omega)
      have G2 : Hid _ := RZ1.out.put (q := ⟨false, ks.drop J, [], is.drop J⟩) PB1.out.pv
      have PA2 : Hid _ := PA1.out.far RZ1.out G2.out.2 (by have := LT.out; omega)
      have PB2 : Hid _ := PB1.out.far RZ1.out G2.out.2 (by have := LT2.out; omega)
      have X : Hid _ := RZ.out.fin (q := ⟨false, ks.take A, [], is.take J⟩) (q' := ⟨false, ks.drop J, [], is.drop J⟩) PA.out.pv PB.out.pv
      have SX : Hid (∀ W, B4 W w.heap.size (.bool false) (.slice (some ⟨kb, ko, none⟩) kn kc) (.slice va vn vc) (.slice (some ⟨ib, io, none⟩) im ic) → B4 W C1 (.bool false) (.slice ax mx cx) (.slice dx nx fx) (.slice gx ox hx) → B4 W C2 (.bool false) (.slice ay my cy) (.slice dy ny fy) (.slice gy oy hy) → Below w.heap.size w W → W.cell? ⟨w.heap.size, 0, none⟩ = some (.bool false) ∧ W.cell? ⟨w.heap.size, 1, none⟩ = some (.slice (some ⟨kb, ko, none⟩) kn kc) ∧ W.cell? ⟨w.heap.size, 2, none⟩ = some (.slice va vn vc) ∧ W.cell? ⟨w.heap.size, 3, none⟩ = some (.slice (some ⟨ib, io, none⟩) im ic) ∧ W.cell? ⟨C1, 0, none⟩ = some (.bool false) ∧ W.cell? ⟨C1, 1, none⟩ = some (.slice ax mx cx) ∧ W.cell? ⟨C1, 2, none⟩ = some (.slice dx nx fx) ∧ W.cell? ⟨C1, 3, none⟩ = some (.slice gx ox hx) ∧ W.cell? ⟨C2, 0, none⟩ = some (.bool false) ∧ W.cell? ⟨C2, 1, none⟩ = some (.slice ay my cy) ∧ W.cell? ⟨C2, 2, none⟩ = some (.slice dy ny fy) ∧ W.cell? ⟨C2, 3, none⟩ = some (.slice gy oy hy) ∧ W.cell? ⟨kb, ko + A, none⟩ = some (.string (kAt ks A))) := fun W q r s b => ⟨q.a0, q.a1, q.a2, q.a3, r.a0, r.a1, r.a2, r.a3, s.a0, s.a1, s.a2, s.a3, KC.out W b⟩
      have S50 := SX.out _ RZ.out.box PA.out.b4 PB.out.b4 RZ.out.bel
      have SA1 : Hid _ := SX.out _ BX1.out PA1.out.b4 PB1.out.b4 BL1.out
      have SA2 : Hid _ := SX.out _ X.out.box PA2.out.b4 PB2.out.b4 X.out.bel
      clear PA PB PA1 PB1 PA2 PB2 BX1 BL1 G1 G2 SX
      unfold st4 at X SA1 SA2 RZ1
      simp only at X SA1 SA2 RZ1
      have kst : ∃ s, s = kAt ks A := ⟨_, rfl⟩
      refine wp_region_held_drew (S := (fun W => W.cell? ⟨w.heap.size, 0, none⟩ = some (.bool false) ∧ W.cell? ⟨w.heap.size, 1, none⟩ = some (.slice (some ⟨kb, ko, none⟩) kn kc) ∧ W.cell? ⟨w.heap.size, 2, none⟩ = some (.slice va vn vc) ∧ W.cell? ⟨w.heap.size, 3, none⟩ = some (.slice (some ⟨ib, io, none⟩) im ic) ∧ W.cell? ⟨C1, 0, none⟩ = some (.bool false) ∧ W.cell? ⟨C1, 1, none⟩ = some (.slice ax mx cx) ∧ W.cell? ⟨C1, 2, none⟩ = some (.slice dx nx fx) ∧ W.cell? ⟨C1, 3, none⟩ = some (.slice gx ox hx) ∧ W.cell? ⟨C2, 0, none⟩ = some (.bool false) ∧ W.cell? ⟨C2, 1, none⟩ = some (.slice ay my cy) ∧ W.cell? ⟨C2, 2, none⟩ = some (.slice dy ny fy) ∧ W.cell? ⟨C2, 3, none⟩ = some (.slice gy oy hy) ∧ W.cell? ⟨kb, ko + A, none⟩ = some (.string (kAt ks A)))) (by kernel_rfl) S50 (fun hHeld => ?_)
      generalize wp.drew = wz at *
      refine take2 rfl (i := 0) (v := (.agg #[.bool false, .slice ax mx cx, .slice dx nx fx, .slice gx ox hx])) (d := 42) rfl rfl (by kernel_rfl) (by kernel_rfl) (by kernel_rfl) (fun _ _ _ h => h) (Or.inl ⟨by rfl, ?_⟩) hHeld ?_
      · (intro W hW; (try dsimp only at hW); go_simp)
      try simp only [Act.put, List.setIfInBounds_toArray, List.set_cons_zero, List.set_cons_succ]
      refine take2 rfl (i := 1) (v := .pointer (some ⟨w.heap.size, 1, none⟩)) (d := 43) rfl rfl (by kernel_rfl) (by kernel_rfl) (by kernel_rfl) (fun _ _ _ h => h) (Or.inl ⟨by rfl, ?_⟩) hHeld ?_
      · (intro W hW; (try dsimp only at hW); go_simp)
      try simp only [Act.put, List.setIfInBounds_toArray, List.set_cons_zero, List.set_cons_succ]
      refine take2 rfl (i := 2) (v := .slice (some ⟨kb, ko, none⟩) kn kc) (d := 44) rfl rfl (by kernel_rfl) (by kernel_rfl) (by kernel_rfl) (fun _ _ _ h => h) (Or.inl ⟨by rfl, ?_⟩) hHeld ?_
      · (intro W hW; (try dsimp only at hW); go_simp)
      try simp only [Act.put, List.setIfInBounds_toArray, List.set_cons_zero, List.set_cons_succ]
      refine take2 rfl (i := 3) (v := .int .i64 (A : Nat)) (d := 45) rfl rfl (by kernel_rfl) (by kernel_rfl) (by kernel_rfl) (fun _ _ _ h => h) (Or.inl ⟨by rfl, ?_⟩) hHeld ?_
      · (intro W hW; (try dsimp only at hW); go_simp)
      try simp only [Act.put, List.setIfInBounds_toArray, List.set_cons_zero, List.set_cons_succ]
      refine take2 rfl (i := 4) (v := .pointer (some ⟨kb, ko + A, none⟩)) (d := 46) rfl rfl (by kernel_rfl) (by kernel_rfl) (by kernel_rfl) (fun _ _ _ h => h) (Or.inl ⟨by rfl, ?_⟩) hHeld ?_
      · (intro W hW; (try dsimp only at hW); go_simp)
      try simp only [Act.put, List.setIfInBounds_toArray, List.set_cons_zero, List.set_cons_succ]
      refine take2 rfl (i := 5) (v := .string (kAt ks A)) (d := 47) rfl rfl (by kernel_rfl) (by kernel_rfl) (by kernel_rfl) (fun _ _ _ h => h) (Or.inl ⟨by rfl, ?_⟩) hHeld ?_
      · (intro W hW; (try dsimp only at hW); go_simp)
      try simp only [Act.put, List.setIfInBounds_toArray, List.set_cons_zero, List.set_cons_succ]
      refine take2 rfl (i := 6) (v := (.agg #[.bool false, .slice ay my cy, .slice dy ny fy, .slice gy oy hy])) (d := 48) rfl rfl (by kernel_rfl) (by kernel_rfl) (by kernel_rfl) (fun _ _ _ h => h) (Or.inl ⟨by rfl, ?_⟩) hHeld ?_
      · (intro W hW; (try dsimp only at hW); go_simp)
      try simp only [Act.put, List.setIfInBounds_toArray, List.set_cons_zero, List.set_cons_succ]
      obtain ⟨r0, r1', r2', r3'⟩ := RZ.out.ra.b4
      simp only [zeroP] at r0
      have rz := RZ.out.ra.fz
      refine wpAnyH_ready (rs := [7]) (by kernel_rfl) (by simp) ?_
      refine cons2 rfl rfl (fun K9 hK => ?_)
      go_simp
      refine hK.out _ _ SA1.out (fun hX => ?_)
      clear hK K9 hHeld r0 r1' r2' r3' rz
      have hHeld := hX
      clear hX
      try simp only [Act.put, List.setIfInBounds_toArray, List.set_cons_zero, List.set_cons_succ]
      refine take2 rfl (i := 8) (v := .string (kAt ks A)) (d := 3) rfl rfl (by kernel_rfl) (by kernel_rfl) (by kernel_rfl) (fun _ _ _ h => h) (Or.inl ⟨by rfl, ?_⟩) hHeld ?_
      · (intro W hW; (try dsimp only at hW); go_simp)
      try simp only [Act.put, List.setIfInBounds_toArray, List.set_cons_zero, List.set_cons_succ]
      obtain ⟨r0, r1', r2', r3'⟩ := RZ1.out.b4
      simp only [zeroP] at r0
      have rz := RZ1.out.fz
      refine wpAnyH_ready (rs := [9]) (by kernel_rfl) (by simp) ?_
      refine cons2 rfl rfl (fun K9 hK => ?_)
      go_simp
      refine hK.out _ _ SA2.out (fun hX => ?_)
      clear hK K9 hHeld r0 r1' r2' r3' rz
      try simp only [Act.put, List.setIfInBounds_toArray, List.set_cons_zero, List.set_cons_succ]
      refine wpAnyH_done (by kernel_rfl) ?_ _
      generalize ((((((((wz.setCell ⟨w.heap.size + 1, 0, none⟩ (.bool false)).setCell ⟨w.heap.size + 1, 1, none⟩ (.slice ax mx cx)).setCell ⟨w.heap.size + 1, 2, none⟩ (.slice dx nx fx)).setCell ⟨w.heap.size + 1, 3, none⟩ (.slice gx ox hx)).setCell ⟨w.heap.size + 1 + 1, 0, none⟩ (.bool false)).setCell ⟨w.heap.size + 1 + 1, 1, none⟩ (.slice ay my cy)).setCell ⟨w.heap.size + 1 + 1, 2, none⟩ (.slice dy ny fy)).setCell ⟨w.heap.size + 1 + 1, 3, none⟩ (.slice gy oy hy)) = W8 at *
      have P1 : Hid _ := X.out.p1
      have P2 : Hid _ := X.out.p2
      have BL : Hid _ := X.out.bel
      obtain ⟨t0, t1, t2, t3⟩ := X.out.ra
      obtain ⟨t4, t5, t6, t7⟩ := X.out.rb
      go_wp2
      exact bodyPost_ret (v := .tuple #[.agg #[.bool false, .slice ax mx cx, .slice dx nx fx, .slice gx ox hx], .string (kAt ks A), .agg #[.bool false, .slice ay my cy, .slice dy ny fy, .slice gy oy hy]]) (by simp [results, Try.results86, go_sem, t0, t1, t2, t3, t4, t5, t6, t7]) rfl ⟨_, _, rfl, P1.out, P2.out, BL.out⟩

end Go.Proofs.Ythdjghmipepppaa

