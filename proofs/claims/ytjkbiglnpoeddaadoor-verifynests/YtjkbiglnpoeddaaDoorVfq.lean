/- The walk over verify's follow, of stacks. -/
import Derived.Test.YtjkbiglnpoeddaaDoorVfp
import Derived.WalkMore
import Derived.Deep.LoopGhost
namespace Go.Proofs.YtjkbiglnpoeddaaDoor.Vf
open Go.RowKit
set_option linter.unusedVariables false
set_option linter.unusedSimpArgs false

/-- Between two rounds of follow. -/
structure FI (W0 w wr : World) (c bx sb kb : Nat) (s : S7) (lv : Value) (st : Int) (F : FS) : Prop where
  kx : Kx [c, sb, kb] w wr
  bl : Below W0.heap.size W0 wr
  ck : Ck wr c s lv st F.sg
  sa : SA wr sb kb F.st
  bc : wr.cell? ⟨bx, 0, none⟩ = some (.pointer (some ⟨c, 0, none⟩))
  sz : ∀ (j : Nat) s, F.st[j]? = some (some s) → s.size ≤ 64
  sk : 0 ≤ F.sg ∧ F.sg ≤ 64
  ln : F.st.length = s.m6
theorem FI.next {W0 w a b : World} {c bx sb kb : Nat} {s : S7} {lv : Value} {st : Int} {F : FS} (h : FI W0 w a c bx sb kb s lv st F) (k : Below a.heap.size a b) : FI W0 w b c bx sb kb s lv st F :=
  ⟨h.kx.next k, h.bl.trans (k.mono h.bl.size), Bx.next h.ck k, h.sa.next k, celB k h.bc, h.sz, h.sk, h.ln⟩
/-- What lies apart. -/
structure Aps (W0 : World) (c bx sb kb : Nat) : Prop where
  c0 : W0.heap.size ≤ c
  s0 : W0.heap.size ≤ sb
  k0 : W0.heap.size ≤ kb
  cs : c ≠ sb
  ck : c ≠ kb
  bc : bx ≠ c
  bs : bx ≠ sb
  bk : bx ≠ kb
  rt : 0 < W0.heap.size
theorem FI.step {W0 w a b : World} {c bx sb kb : Nat} {s : S7} {lv : Value} {st sk : Int} {F : FS} (h : FI W0 w a c bx sb kb s lv st F) (A : Aps W0 c bx sb kb) (k : StP a b c s lv st sk) (hs : 0 ≤ sk ∧ sk ≤ 64) : FI W0 w b c bx sb kb s lv st { F with sg := sk } :=
  ⟨h.kx.trans (k.kx.sub (fun i hi => by simp at hi; subst hi; simp)), h.bl.trans (k.kx.bel h.bl.size (fun i hi => by simp at hi; subst hi; exact A.c0)), k.ck, h.sa.kx k.kx (by simp; exact fun e => A.cs e.symm) (by simp; exact fun e => A.ck e.symm), k.kx.cell (by simp; exact A.bc) h.bc, h.sz, hs, h.ln⟩
theorem FI.set {W0 w a : World} {c bx sb kb : Nat} {s : S7} {lv : Value} {st : Int} {F : FS} (h : FI W0 w a c bx sb kb s lv st F) (A : Aps W0 c bx sb kb) {j : Nat} (hj : j < s.m6) {x : ByteArray} (hx : x.size ≤ 64) : FI W0 w ((a.setCell ⟨sb, j, none⟩ (.string x)).setCell ⟨kb, j, none⟩ (.bool true)) c bx sb kb s lv st { F with st := F.st.set j (some x) } := by
  have K : Kx [sb, kb] a ((a.setCell ⟨sb, j, none⟩ (.string x)).setCell ⟨kb, j, none⟩ (.bool true)) := ((Kx.refl [sb, kb] a).set (p := sb) _ (by simp)).set (p := kb) _ (by simp)
  refine ⟨h.kx.trans (K.sub (fun i hi => by simp at hi ⊢; omega)), h.bl.trans (K.bel h.bl.size (fun i hi => by simp at hi; rcases hi with e | e <;> subst e; exact A.s0; exact A.k0)), Bx.kx h.ck K (by simp; exact ⟨A.cs, A.ck⟩), h.sa.set (by rw [h.ln]; exact hj) x, K.cell (by simp; exact ⟨A.bs, A.bk⟩) h.bc, fun i s' hi => ?_, h.sk, by simp; exact h.ln⟩
  dsimp only at hi
  rw [List.getElem?_set] at hi
  split at hi
  · split at hi
    · injection hi with hi; injection hi with hi; subst hi; exact hx
    · cases hi
  · exact h.sz i s' hi
theorem rep_none (n : Nat) (j : Nat) (s' : ByteArray) (h : (List.replicate n (none : Option ByteArray))[j]? = some (some s')) : s'.size ≤ 64 := by
  rw [List.getElem?_replicate] at h
  split at h
  · injection h with h; cases h
  · cases h
theorem run_eq {p : Pg} {i : Nat} {x : Ins} {F G : FS} (hx : p.co[i]? = some x) (h : runF p (p.co.drop i) i F = G) : (match (stpA p x i F).ft with | some _ => stpA p x i F | none => runF p (p.co.drop (i + 1)) (i + 1) (stpA p x i F)) = G := by
  have hi : i < p.co.length := (List.getElem?_eq_some_iff.1 hx).1
  have e : p.co[i] = x := (List.getElem?_eq_some_iff.1 hx).2
  rw [List.drop_eq_getElem_cons hi, e] at h
  exact h
theorem onw_len (k : Nat) (x : Ins) : (onwF k x).length ≤ 2 := by
  unfold onwF
  split
  · simp
  split
  · simp
  split
  · simp
  split <;> simp
theorem go_nil (k : Nat) (s : ByteArray) (F : FS) : goF k s [] F = F := rfl
theorem go_set {k : Nat} {s : ByteArray} {t : Int} {r : List Int} {F : FS} (h : ∀ s', F.st.getD t.toNat none = some s' → (s'.toList == s.toList) = true) : goF k s (t :: r) F = goF k s r { F with st := F.st.set t.toNat (some s) } := by
  show (match F.st.getD t.toNat none with | some s' => if (s'.toList == s.toList) = true then _ else _ | none => _) = _
  split
  · rename_i s' e
    rw [if_pos (h s' e)]
  · rfl
theorem go_bad {k : Nat} {s s' : ByteArray} {t : Int} {r : List Int} {F : FS} (h : F.st.getD t.toNat none = some s') (hq : (s'.toList == s.toList) = false) : goF k s (t :: r) F = { F with ft := some k } := by
  unfold goF
  rw [h]
  dsimp only
  rw [if_neg (by rw [hq]; decide)]
theorem stk_size {p : Pg} {i : Ins} {x : ByteArray} (h : (stkO i (stkF p i x)).2 = true) : (stkO i (stkF p i x)).1.size ≤ 64 ∧ ∀ sk : Int, 0 ≤ sk ∧ sk ≤ 64 → 0 ≤ stkM sk (stkF p i x) ∧ stkM sk (stkF p i x) ≤ 64 := by
  cases e : stkF p i x with
  | none => rw [e] at h; cases h
  | some s =>
    rw [e] at h
    have hs : s.size ≤ 64 := by
      unfold stkO at h
      simp at h
      exact h.1
    refine ⟨hs, fun sk hk => ?_⟩
    unfold stkM
    dsimp only
    split <;> omega
set_option maxRecDepth 100000 in
set_option maxHeartbeats 8000000 in
theorem follow_any {W0 w : World} {c bx : Nat} {s : S7} {p : Pg} {lv : Value} {st sk : Int} (hP0 : Pv W0 s p) (hT0 : RT W0) (hB0 : Below W0.heap.size W0 w) (hc : W0.heap.size ≤ c) (hC : Ck w c s lv st sk) (hsk : sk = 0) (hn : s.m6 ≤ 99999) (h0 : 0 < s.m6)
    (hb : w.cell? ⟨bx, 0, none⟩ = some (.pointer (some ⟨c, 0, none⟩))) (hbc : bx ≠ c) (hR : ∀ x, x ∈ p.co → Rst x.1) (hO : ∀ (k : Nat) x, p.co[k]? = some x → ∀ t, t ∈ onwF k x → 0 ≤ t ∧ t < (s.m6 : Int)) :
    Calls Tryd.prog 29 #[.agg #[.slice s.a0 s.m0 s.c0, .slice s.a1 s.m1 s.c1, .slice s.a2 s.m2 s.c2, .slice s.a3 s.m3 s.c3, .slice s.a4 s.m4 s.c4, .slice s.a5 s.m5 s.c5, .slice s.a6 s.m6 s.c6], .string ⟨#[]⟩, .func (.func 30) #[] #[.pointer (some ⟨bx, 0, none⟩)]] w fun e w' => e = .returned (foO (folF p).ft) ∧ StP w w' c s lv st (folF p).sg := by
  subst hsk
  have L := hid (hP0.next hB0).k6.len
  have XP := hid (Bx.new w #[.slice s.a0 s.m0 s.c0, .slice s.a1 s.m1 s.c1, .slice s.a2 s.m2 s.c2, .slice s.a3 s.m3 s.c3, .slice s.a4 s.m4 s.c4, .slice s.a5 s.m5 s.c5, .slice s.a6 s.m6 s.c6] 35 (by decide))
  have BP := hid (allocB w (.cells #[.slice s.a0 s.m0 s.c0, .slice s.a1 s.m1 s.c1, .slice s.a2 s.m2 s.c2, .slice s.a3 s.m3 s.c3, .slice s.a4 s.m4 s.c4, .slice s.a5 s.m5 s.c5, .slice s.a6 s.m6 s.c6] 35))
  obtain ⟨pb, hpb⟩ : ∃ pb, pb = w.heap.size := ⟨_, rfl⟩
  have WP := hid hpb
  rw [← hpb] at XP
  obtain ⟨g, o, ea, hI⟩ := ins_all hP0.k6 h0
  have IC := hid hI
  have VX := hid (fun i (hi : i < s.m6) => Vw.ex hP0.k6 hi)
  have T0 := hid hT0
  have HR := hid hR
  have HO := hid hO
  have N6 := hid hn
  have Z6 := hid h0
  have C := hid hC
  have HB := hid hb
  have B0 := hid hB0
  have HC := hid hc
  have NB := hid hbc
  have EA := hid ea
  have mb : (s.m6 : Int) ≤ 1000000 := by omega
  have m0 : (0 : Int) < (s.m6 : Int) := by omega
  have BXL := hid (World.block_lt_of_cell? _ _ hb)
  have CL := hid (Bx.lt hC)
  obtain ⟨G, hG⟩ : ∃ G, folF p = G := ⟨_, rfl⟩
  have RG := hid hG
  rw [hG]
  clear hP0 hT0 hB0 hc hC hn h0 hb hbc hR hO hpb hI ea hG
  go_enter Tryd.func29, Tryd.ntmps29
  go_upto_region 1 with fail
  rw [← WP.out]
  generalize World.alloc w _ = w1 at *
  have d6 : w1.cell? ⟨pb, 6, none⟩ = some (.slice (some ⟨g, o, none⟩) s.m6 s.c6) := by rw [← EA.out]; exact XP.out.cell 6 _ rfl
  obtain ⟨o1, mk1, s1, z1⟩ := make_strs w1 s.m6 (by have := N6.out; omega)
  obtain ⟨o2, mk2, s2, z2⟩ := make_bools (w1.alloc (.cells o1 9)) s.m6 (by have := N6.out; omega)
  have S3 := hid (SA.new (w1 := w1) s1 s2 z1 z2)
  have A2 := allocB w1 (.cells o1 9)
  have A3 := allocB (w1.alloc (.cells o1 9)) (.cells o2 4)
  have B3 := hid (nxB A2 A3)
  have d6b := celB A2 d6
  have d6c := celB A3 d6b
  have D6 := hid d6c
  have sz1 : (w1.alloc (.cells o1 9)).heap.size = w1.heap.size + 1 := by simp
  rw [sz1] at mk2
  clear s1 s2 z1 z2 A2 A3
  go_step3
  go_upto_region 3 with fail
  clear d6 d6b d6c mk1 mk2 sz1
  obtain ⟨sb, hsb⟩ : ∃ sb, sb = w1.heap.size := ⟨_, rfl⟩
  obtain ⟨kb, hkb⟩ : ∃ kb, kb = w1.heap.size + 1 := ⟨_, rfl⟩
  rw [← hkb, ← hsb]
  rw [← hkb, ← hsb] at S3
  have SB := hid (And.intro hsb hkb)
  generalize World.alloc (World.alloc w1 _) _ = w3 at *
  have XP3 := hid (Bx.next XP.out B3.out)
  have BW := hid (nxB BP.out B3.out)
  have SBK := hid (show w.heap.size ≤ sb ∧ w.heap.size ≤ kb from by have := BP.out.size; omega)
  have AP := hid (show Aps W0 c bx sb kb from by
    have a := CL.out
    have b := BXL.out
    have d := BP.out.size
    have e := B0.out.size
    have f := HC.out
    have g := T0.out.1
    have i := NB.out
    exact ⟨f, by omega, by omega, by omega, by omega, i, by omega, by omega, g⟩)
  have e1 := (S3.out.cs 0 none (by rw [List.getElem?_replicate, if_pos Z6.out])).1
  have e2 := (S3.out.cs 0 none (by rw [List.getElem?_replicate, if_pos Z6.out])).2
  dsimp only [Option.getD, Option.isSome] at e1 e2
  have f1 := fun j => (S3.out.fz j).1
  have f2 := fun j => (S3.out.fz j).2
  have nn : sb ≠ kb := S3.out.ne.1
  have nn2 : kb ≠ sb := fun e => nn e.symm
  have F3 := hid (show FI W0 w w3 c bx sb kb s lv st ⟨List.replicate s.m6 none, 0, none⟩ from ⟨Kx.of _ BW.out, B0.out.trans (BW.out.mono B0.out.size), Bx.next C.out BW.out, S3.out, celB BW.out HB.out, rep_none s.m6, ⟨Int.le_refl _, (show (0 : Int) ≤ 64 from by decide)⟩, by simp⟩)
  have F4 := hid (show FI W0 w ((w3.setCell ⟨sb, 0, none⟩ (.string ⟨#[]⟩)).setCell ⟨kb, 0, none⟩ (.bool true)) c bx sb kb s lv st (iniF s.m6) from F3.out.set AP.out Z6.out (x := ⟨#[]⟩) (by decide))
  have PL := hid (Bx.lt XP.out)
  have XP4 := hid (Bx.kx XP3.out (((Kx.refl [sb, kb] w3).set (p := sb) (i := 0) (.string ⟨#[]⟩) (by simp)).set (p := kb) (i := 0) (.bool true) (by simp)) (by simp; have := PL.out; have := SB.out.1; have := SB.out.2; omega))
  clear F3 hsb hkb
  go_upto_region 4 with fail
  clear e1 e2 f1 f2 nn nn2 S3 XP3 BW B3 XP BP SB
  generalize World.setCell (World.setCell w3 ⟨sb, 0, none⟩ _) ⟨kb, 0, none⟩ _ = w4 at *
  have d6 : w4.cell? ⟨pb, 6, none⟩ = some (.slice (some ⟨g, o, none⟩) s.m6 s.c6) := by rw [← EA.out]; exact XP4.out.cell 6 _ rfl
  have R0 := hid (show runF p (p.co.drop 0) 0 (iniF s.m6) = G from by rw [← RG.out]; unfold folF; rw [L.out]; rfl)
  clear EA XP4 RG D6
  go_wp2_with fail
  go_step3
  go_wp2_with fail
  clear d6
  go_loopg [10, 33] (s.m6) (fun g fv kv wr => ∃ (i : Nat) (F : FS), i ≤ s.m6 ∧ g = s.m6 - i ∧ fv = .int .i64 (-1) ∧ kv = .int .i64 (i : Nat) ∧ Hid (FI W0 w wr c bx sb kb s lv st F) ∧ Hid (runF p (p.co.drop i) i F = G ∧ F.ft = none))
  case atStart => exact ⟨0, iniF s.m6, Nat.zero_le _, rfl, rfl, rfl, F4.out, R0.out, rfl⟩
  case round =>
    obtain ⟨i, F, hi, rfl, rfl, rfl, HF, HG⟩ := hrel
    by_cases q : i < s.m6
    · have q' : (i : Int) < (s.m6 : Int) := by omega
      obtain ⟨x, hx⟩ := VX.out i q
      obtain ⟨h0, h1, h2, h3⟩ := IC.out i x hx
      have k0 := celB HF.out.bl h0
      have k1 := celB HF.out.bl h1
      have k2 := celB HF.out.bl h2
      have k3 := celB HF.out.bl h3
      have AL := allocB wr (.cells #[.int .i64 x.1, .int .i64 x.2.1, .int .i64 x.2.2.1, .int .i64 x.2.2.2] 37)
      have X5 := hid (Bx.new wr #[.int .i64 x.1, .int .i64 x.2.1, .int .i64 x.2.2.1, .int .i64 x.2.2.2] 37 (by decide))
      have F5 := hid (HF.out.next AL)
      have RE := hid (run_eq hx HG.out.1)
      have HX := hid hx
      have XM := hid (List.mem_of_getElem? hx)
      have XC := hid (show wr.heap.size ≠ c ∧ wr.heap.size ≠ sb ∧ wr.heap.size ≠ kb from by
        have := Bx.lt HF.out.ck
        have := HF.out.sa.ne
        omega)
      clear h0 h1 h2 h3 hx AL HF
      go_upto_region 8 with fail
      clear k0 k1 k2 k3
      generalize World.alloc wr _ = w5 at *
      generalize wr.heap.size = xb at *
      obtain ⟨x0, x1, x2, x3⟩ := Bx.q4 X5.out
      obtain ⟨o5, ho⟩ : ∃ o5, F.st[i]? = some o5 := ⟨_, List.getElem?_eq_getElem (by rw [F5.out.ln]; exact q)⟩
      have HO2 := hid ho
      have GD := hid (show F.st.getD i none = o5 from by rw [List.getD_eq_getElem?_getD, ho]; rfl)
      obtain ⟨h1, h2⟩ := F5.out.sa.cs i o5 ho
      clear ho
      cases o5 with
      | none =>
        dsimp only [Option.getD, Option.isSome] at h1 h2
        have RE := hid (show runF p (p.co.drop (i + 1)) (i + 1) F = G from by
          have e : stpA p x i F = F := by unfold stpA; rw [GD.out]
          have := RE.out
          rw [e, HG.out.2] at this
          exact this)
        go_wp2_with fail
        go_roundg (s.m6 - (i + 1))
        case measure => omega
        case rel => exact ⟨i + 1, F, by omega, rfl, rfl, by rw [Int.natCast_add]; rfl, F5.out, RE.out, HG.out.2⟩
      | some sx =>
        dsimp only [Option.getD, Option.isSome] at h1 h2
        have SS := hid (F5.out.sz i sx HO2.out)
        obtain ⟨R9, hR9⟩ : ∃ R9, stkF p x sx = R9 := ⟨_, rfl⟩
        have HRR := hid hR9
        have SZ := hid (fun h => hR9 ▸ stk_size (p := p) (i := x) (x := sx) h)
        have ES := hid (show stpA p x i F = (if (stkO x R9).2 = true then goF i (stkO x R9).1 (onwF i x) { F with sg := stkM F.sg R9 } else { F with sg := stkM F.sg R9, ft := some i }) from by unfold stpA; rw [GD.out]; dsimp only; rw [hR9])
        clear hR9
        obtain ⟨s2, e2⟩ : ∃ s2, (stkO x R9).1 = s2 := ⟨_, rfl⟩
        obtain ⟨ok, e3⟩ : ∃ ok, (stkO x R9).2 = ok := ⟨_, rfl⟩
        have E23 := hid (And.intro e2 e3)
        clear e2 e3
        go_upto_region 9 with fail
        refine wp_region_held_drew (S := fun W => W.cell? ⟨xb, 0, none⟩ = some (.int .i64 x.1) ∧ W.cell? ⟨xb, 1, none⟩ = some (.int .i64 x.2.1) ∧ W.cell? ⟨xb, 2, none⟩ = some (.int .i64 x.2.2.1) ∧ W.cell? ⟨xb, 3, none⟩ = some (.int .i64 x.2.2.2) ∧ W.cell? ⟨sb, i, none⟩ = some (.string sx)) (by kernel_rfl) ⟨x0, x1, x2, x3, h1⟩ (fun hHeld => ?_)
        have DZ := hid (dw1 w5)
        generalize w5.drew = wz at *
        have FZ := hid (F5.out.next DZ.out)
        have XZ := hid (Bx.next X5.out DZ.out)
        clear x0 x1 x2 x3 h1 h2 DZ F5 X5
        refine tk 0 (.func (.func 30) #[] #[.pointer (some ⟨bx, 0, none⟩)]) 44 rfl rfl rfl (by kernel_rfl) (fun _ _ _ h => h) (by rfl) hHeld ?_ ?_
        · (intro W hW; (try dsimp only at hW); go_simp)
        try simp only [Act.put, List.setIfInBounds_toArray, List.set_cons_zero, List.set_cons_succ]
        refine tk 1 (.agg #[.int .i64 x.1, .int .i64 x.2.1, .int .i64 x.2.2.1, .int .i64 x.2.2.2]) 45 rfl rfl rfl (by kernel_rfl) (fun _ _ _ h => h) (by rfl) hHeld ?_ ?_
        · (intro W hW; (try dsimp only at hW); obtain ⟨y0, y1, y2, y3, y4⟩ := hW; go_simp)
        try simp only [Act.put, List.setIfInBounds_toArray, List.set_cons_zero, List.set_cons_succ]
        refine tk 2 (.slice (some ⟨sb, 0, none⟩) s.m6 s.m6) 46 rfl rfl rfl (by kernel_rfl) (fun _ _ _ h => h) (by rfl) hHeld ?_ ?_
        · (intro W hW; (try dsimp only at hW); go_simp)
        try simp only [Act.put, List.setIfInBounds_toArray, List.set_cons_zero, List.set_cons_succ]
        refine tk 3 (.int .i64 (i : Nat)) 47 rfl rfl rfl (by kernel_rfl) (fun _ _ _ h => h) (by rfl) hHeld ?_ ?_
        · (intro W hW; (try dsimp only at hW); go_simp)
        try simp only [Act.put, List.setIfInBounds_toArray, List.set_cons_zero, List.set_cons_succ]
        refine tk 4 (.pointer (some ⟨sb, i, none⟩)) 48 rfl rfl rfl (by kernel_rfl) (fun _ _ _ h => h) (by rfl) hHeld ?_ ?_
        · (intro W hW; (try dsimp only at hW); go_simp)
        try simp only [Act.put, List.setIfInBounds_toArray, List.set_cons_zero, List.set_cons_succ]
        refine tk 5 (.string sx) 49 rfl rfl rfl (by kernel_rfl) (fun _ _ _ h => h) (by rfl) hHeld ?_ ?_
        · (intro W hW; (try dsimp only at hW); obtain ⟨y0, y1, y2, y3, y4⟩ := hW; go_simp)
        try simp only [Act.put, List.setIfInBounds_toArray, List.set_cons_zero, List.set_cons_succ]
        have KS := hid (step_any (p := p) (T0.out.next FZ.out.bl) FZ.out.ck FZ.out.bc x (HR.out x XM.out) sx SS.out (by have := FZ.out.sk; omega) AP.out.bc (by have := AP.out.rt; have := AP.out.c0; omega))
        rw [HRR.out, E23.out.1, E23.out.2] at KS
        refine wpAnyH_ready (rs := [6]) (by kernel_rfl) (by simp) ?_
        refine cons2 rfl rfl (fun K9 hK => ?_)
        go_simp
        (with_reducible refine Calls.mono KS.out ?_)
        rintro e w6 ⟨rfl, p6⟩
        have P6 := hid p6
        clear p6 KS
        have QX := hid (show xb ∉ [c] from by simp; exact XC.out.1)
        have X6 := hid (Bx.kx XZ.out P6.out.kx QX.out)
        obtain ⟨x0, x1, x2, x3⟩ := Bx.q4 X6.out
        have h1 : w6.cell? ⟨sb, i, none⟩ = some (.string sx) := P6.out.kx.cell (by simp; exact fun e => AP.out.cs e.symm) (FZ.out.sa.cs i (some sx) HO2.out).1
        (try go_wp2_with fail)
        refine hK.out _ _ ⟨x0, x1, x2, x3, h1⟩ (fun hX => ?_)
        clear hK K9 hHeld
        have hHeld := hX
        clear hX
        try simp only [Act.put, List.setIfInBounds_toArray, List.set_cons_zero, List.set_cons_succ]
        refine tk 7 (.tuple #[.string s2, .bool ok]) 43 rfl rfl rfl (by kernel_rfl) (fun _ _ _ h => h) (by rfl) hHeld ?_ ?_
        · (intro W hW; (try dsimp only at hW); go_simp)
        try simp only [Act.put, List.setIfInBounds_toArray, List.set_cons_zero, List.set_cons_succ]
        refine tk 8 (.string s2) 51 rfl rfl rfl (by kernel_rfl) (fun _ _ _ h => h) (by rfl) hHeld ?_ ?_
        · (intro W hW; (try dsimp only at hW); go_simp)
        try simp only [Act.put, List.setIfInBounds_toArray, List.set_cons_zero, List.set_cons_succ]
        refine tk 9 (.bool ok) 52 rfl rfl rfl (by kernel_rfl) (fun _ _ _ h => h) (by rfl) hHeld ?_ ?_
        · (intro W hW; (try dsimp only at hW); go_simp)
        try simp only [Act.put, List.setIfInBounds_toArray, List.set_cons_zero, List.set_cons_succ]
        refine tk 10 (.string s2) 13 rfl rfl rfl (by kernel_rfl) (fun _ _ _ h => h) (by rfl) hHeld ?_ ?_
        · (intro W hW; (try dsimp only at hW); go_simp)
        try simp only [Act.put, List.setIfInBounds_toArray, List.set_cons_zero, List.set_cons_succ]
        refine tk 11 (.bool ok) 14 rfl rfl rfl (by kernel_rfl) (fun _ _ _ h => h) (by rfl) hHeld ?_ ?_
        · (intro W hW; (try dsimp only at hW); go_simp)
        try simp only [Act.put, List.setIfInBounds_toArray, List.set_cons_zero, List.set_cons_succ]
        refine wpAnyH_done (by kernel_rfl) ?_ _
        clear h1
        cases ok with
        | false =>
          have EG := hid (show G = { F with sg := stkM F.sg R9, ft := some i } from by
            have := RE.out
            rw [ES.out, E23.out.2, if_neg (by decide)] at this
            exact this.symm)
          have zi : ((i : Int) == -1) = false := by simp
          go_wp2_with fail
          try rw [Exit.noGoto_ret]
          go_returns
          rw [EG.out]
          refine ⟨rfl, (((FZ.out.kx.trans (P6.out.kx.sub (fun i hi => by simp at hi; subst hi; simp))).sub (cs := [kb, sb, c]) (fun i hi => by simp at hi ⊢; omega)).drop SBK.out.2).drop SBK.out.1, P6.out.ck⟩
        | true =>
          have S2 := hid (show s2.size ≤ 64 ∧ 0 ≤ stkM F.sg R9 ∧ stkM F.sg R9 ≤ 64 from by
            have a := SZ.out (by rw [HRR.out]; exact E23.out.2)
            rw [E23.out.1] at a
            exact ⟨a.1, a.2 F.sg FZ.out.sk⟩)
          have F7 := hid (FZ.out.step AP.out P6.out S2.out.2)
          have ES := hid (show stpA p x i F = goF i s2 (onwF i x) { F with sg := stkM F.sg R9 } from by rw [ES.out, E23.out.1, E23.out.2, if_pos rfl])
          have G7 := hid (show ({ F with sg := stkM F.sg R9 } : FS).ft = none from HG.out.2)
          have HTS := hid (HO.out i x HX.out)
          have KO := hid (onward_any (T0.out.next F7.out.bl) i (by have := N6.out; omega) x)
          have DW := hid (show c < w6.heap.size ∧ sb < w6.heap.size ∧ kb < w6.heap.size from ⟨Bx.lt F7.out.ck, F7.out.sa.ne.2.1, F7.out.sa.ne.2.2⟩)
          obtain ⟨ts, hts⟩ : ∃ ts, onwF i x = ts := ⟨_, rfl⟩
          have HTL := hid hts
          rw [hts] at ES HTS KO
          obtain ⟨F6, hF6⟩ : ∃ F6 : FS, ({ F with sg := stkM F.sg R9 } : FS) = F6 := ⟨_, rfl⟩
          rw [hF6] at ES G7 F7
          clear hts hF6 P6 FZ XZ SZ
          go_wp2_with (go_at_call 50; (with_reducible refine Calls.mono KO.out ?_); rintro e w7 ⟨⟨ta, tc, rfl, tv, tn⟩, b7⟩; have V7 := hid tv; have N7 := hid tn; have F8 := hid (F7.out.next b7); have D7 := hid b7.size; clear tv tn b7 KO)
          clear x0 x1 x2 x3
          have RE := hid (show (match (goF i s2 ts F6).ft with | some _ => goF i s2 ts F6 | none => runF p (p.co.drop (i + 1)) (i + 1) (goF i s2 ts F6)) = G from by have := RE.out; rw [ES.out] at this; exact this)
          have lt2 : (ts.length : Int) ≤ 1000 := by have := onw_len i x; rw [HTL.out] at this; omega
          go_loopg [10, 60] (ts.length) (fun g fv kv wr => ∃ (m : Nat) (H : FS), m ≤ ts.length ∧ g = ts.length - m ∧ fv = .int .i64 (-1) ∧ kv = .int .i64 (m : Nat) ∧ Hid (FI W0 w wr c bx sb kb s lv st H) ∧ Hid (Kx [sb, kb] w7 wr) ∧ Hid (goF i s2 (ts.drop m) H = goF i s2 ts F6 ∧ H.ft = none))
          case atStart => exact ⟨0, F6, Nat.zero_le _, rfl, rfl, rfl, F8.out, Kx.refl _ _, rfl, G7.out⟩
          case round =>
            obtain ⟨m, J, hm, rfl, rfl, rfl, JF, JK, JG⟩ := hrel
            by_cases qm : m < ts.length
            · have qm' : (m : Int) < (ts.length : Int) := by omega
              obtain ⟨tg, tq, tt, rfl, htt, hcc, _⟩ := V7.out.get qm
              have cc : wr.cell? ⟨tg, tq + m, none⟩ = some (.int .i64 tt) := by
                have := JK.out.cell (by have a := N7.out _ rfl; have b := DW.out; simp at a ⊢; omega) hcc
                rw [Nat.mul_one] at this
                exact this
              obtain ⟨t0, t1⟩ := HTS.out tt (List.mem_of_getElem? htt)
              obtain ⟨tn, rfl⟩ : ∃ tn : Nat, tt = tn := ⟨tt.toNat, by omega⟩
              have JE := hid (show goF i s2 ((tn : Int) :: ts.drop (m + 1)) J = goF i s2 ts F6 from by
                rw [← JG.out.1, List.drop_eq_getElem_cons qm, (List.getElem?_eq_some_iff.1 htt).2])
              have tl : tn < s.m6 := by omega
              obtain ⟨o9, h9⟩ : ∃ o9, J.st[tn]? = some o9 := ⟨_, List.getElem?_eq_getElem (by rw [JF.out.ln]; exact tl)⟩
              have G9 := hid (show J.st.getD (tn : Int).toNat none = o9 from by rw [Int.toNat_natCast, List.getD_eq_getElem?_getD, h9]; rfl)
              obtain ⟨u1, u2⟩ := JF.out.sa.cs tn o9 h9
              have f1 := fun j => (JF.out.sa.fz j).1
              have f2 := fun j => (JF.out.sa.fz j).2
              have nn : sb ≠ kb := JF.out.sa.ne.1
              have nn2 : kb ≠ sb := fun e => nn e.symm
              have FS2 := hid (JF.out.set AP.out tl (x := s2) S2.out.1)
              have KS2 := hid (show Kx [sb, kb] w7 ((wr.setCell ⟨sb, tn, none⟩ (.string s2)).setCell ⟨kb, tn, none⟩ (.bool true)) from (JK.out.set (p := sb) (i := tn) (.string s2) (by simp)).set (p := kb) (i := tn) (.bool true) (by simp))
              clear htt hcc h9
              cases o9 with
              | none =>
                dsimp only [Option.getD, Option.isSome] at u1 u2
                have JE := hid (show goF i s2 (ts.drop (m + 1)) { J with st := J.st.set tn (some s2) } = goF i s2 ts F6 from by
                  rw [← JE.out, go_set (fun s' h => by rw [G9.out] at h; cases h)]
                  rfl)
                go_wp2_with fail
                go_roundg (ts.length - (m + 1))
                case measure => omega
                case rel => exact ⟨m + 1, _, by omega, rfl, rfl, by rw [Int.natCast_add]; rfl, FS2.out, KS2.out, JE.out, JG.out.2⟩
              | some s9 =>
                dsimp only [Option.getD, Option.isSome] at u1 u2
                cases z9 : (s9.toList == s2.toList) with
                | true =>
                  have JE := hid (show goF i s2 (ts.drop (m + 1)) { J with st := J.st.set tn (some s2) } = goF i s2 ts F6 from by
                    rw [← JE.out, go_set (fun s' h => by rw [G9.out] at h; injection h with h; subst h; exact z9)]
                    rfl)
                  go_wp2_with fail
                  go_roundg (ts.length - (m + 1))
                  case measure => omega
                  case rel => exact ⟨m + 1, _, by omega, rfl, rfl, by rw [Int.natCast_add]; rfl, FS2.out, KS2.out, JE.out, JG.out.2⟩
                | false =>
                  have JE := hid (show goF i s2 ts F6 = { J with ft := some i } from by rw [← JE.out, go_bad G9.out z9])
                  have EG := hid (show G = { J with ft := some i } from by
                    have := RE.out
                    rw [JE.out] at this
                    exact this.symm)
                  have zi : ((i : Int) == -1) = false := by simp
                  go_wp2_with fail
                  try rw [Exit.noGoto_ret]
                  go_returns
                  rw [EG.out]
                  exact ⟨rfl, ((JF.out.kx.sub (cs := [kb, sb, c]) (fun i hi => by simp at hi ⊢; omega)).drop SBK.out.2).drop SBK.out.1, JF.out.ck⟩
            · have qm' : ¬ (m : Int) < (ts.length : Int) := by omega
              have JE := hid (show goF i s2 ts F6 = J from by
                have := JG.out.1
                rw [List.drop_of_length_le (by omega)] at this
                exact this.symm)
              have RE := hid (show runF p (p.co.drop (i + 1)) (i + 1) J = G from by
                have := RE.out
                rw [JE.out, JG.out.2] at this
                exact this)
              go_wp2_with fail
              go_roundg (s.m6 - (i + 1))
              case measure => omega
              case rel => exact ⟨i + 1, J, by omega, rfl, rfl, by rw [Int.natCast_add]; rfl, JF.out, RE.out, JG.out.2⟩
    · have q' : ¬ (i : Int) < (s.m6 : Int) := by omega
      have HE := hid (show G = F from by
        have := HG.out.1
        rw [List.drop_of_length_le (by have := L.out; omega)] at this
        exact this.symm)
      go_wp2_with fail
      try rw [Exit.noGoto_ret]
      go_returns
      rw [HE.out, HG.out.2]
      exact ⟨rfl, ((HF.out.kx.sub (cs := [kb, sb, c]) (fun i hi => by simp at hi ⊢; omega)).drop SBK.out.2).drop SBK.out.1, HF.out.ck⟩

end Go.Proofs.YtjkbiglnpoeddaaDoor.Vf
