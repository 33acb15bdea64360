/- Proved: the law TreeMap of package publicanlaw7 returns true at every start, whatever memory it starts in, on every schedule; no condition. -/
import Derived.Test.YthdjghmipepppaaNg
import Derived.Lib.SmallJoins
import Derived.SizedLaws
namespace Go.Proofs.Ythdjghmipepppaa.treeMap
open Go.ChangeShapes Go.WideShapes Go.ChangeAt Go.RowKit Go.Deep Go.Joins Go.Maps Go.ChangeMaps
set_option linter.unusedVariables false
set_option linter.unusedSimpArgs false

attribute [local go_sem] Oper.semAt_some

set_option maxRecDepth 100000 in
set_option maxHeartbeats 32000000 in
theorem walk (W : World) (a0 : Option Addr) (len cap : Nat) (fn : Nat → Ac) (h : Acts W a0 len cap fn) :
    Calls Try.prog 5 #[.slice a0 len cap] W fun e w' => e = .returned (.bool true) ∧ Below W.heap.size W w' := by
  have H : Hid _ := h
  have mx := h.max
  have mf := h.fits
  unfold maxLen at mx
  clear h
  go_enter Try.func5, Try.ntmps5
  go_wp2_with fail
  refine Calls.mono (awake_any W) ?_
  rintro e w0 ⟨rfl, b0'⟩
  have B0 : Hid _ := b0'
  have H0 : Hid _ := H.out.below b0'
  clear b0' H
  go_wp2_with fail
  refine Calls.mono (small_any w0 a0 len cap fn H0.out) ?_
  rintro e w1 ⟨b, rfl, OK', b1'⟩
  have OK : Hid _ := OK'
  have B1 : Hid _ := nextB B0.out b1'
  have H1 : Hid _ := H0.out.below b1'
  clear b1' OK' H0 B0
  cases b with
  | false =>
    go_wp2_with fail
    go_ret
    exact ⟨rfl, B1.out⟩
  | true =>
  have LN : Hid _ := (OK.out rfl).1
  have OKA : Hid _ := (OK.out rfl).2
  have ln := LN.out
  clear OK
  by_cases g1 : 60 < len
  · have g1' : (60 : Int) < (len : Int) := by omega
    go_wp2_with fail
    go_ret
    exact ⟨rfl, B1.out⟩
  have g1' : ¬ (60 : Int) < (len : Int) := by omega
  have l60 : len ≤ 60 := by omega
  have b2 : Hid _ := nextB (nextB (allocB w1 (.cells #[.slice none 0 0, .int .i64 0, .int .i64 0] 26)) (allocB _ (.cells #[.int .u64 0] 27))) (allocB _ (.cells #[.slice none 0 0] 33))
  have S2 : Hid _ := ((SH.new w1).below (allocB _ (.cells #[.int .u64 0] 27))).below (allocB _ (.cells #[.slice none 0 0] 33))
  have M2 : Hid _ := MP.start (w1.alloc (.cells #[.slice none 0 0, .int .i64 0, .int .i64 0] 26))
  simp only [World.size_alloc] at M2
  go_upto_region 9 with fail
  generalize ((w1.alloc (.cells #[.slice none 0 0, .int .i64 0, .int .i64 0] 26)).alloc (.cells #[.int .u64 0] 27)).alloc (.cells #[.slice none 0 0] 33) = w2 at *
  generalize hP : w1.heap.size = P at *
  go_loopg [4, 5, 6] len (fun g rv mv iv wr => ∃ (i root d f' n : Nat) (sh : List Pg) (L : List It) (rs : List Nat) (ms : List (Value × List It)) (vr vm : Value), i ≤ len ∧ g = len - i ∧ iv = .int .i64 (i : Nat) ∧ vr = rv ∧ vm = mv ∧ Hid (Stt sh root L d f' i) ∧ Hid (SH wr P sh 0 n) ∧ Hid (Lo w2 wr P) ∧ n ≤ 100 * i ∧ Hid (MP wr (P + 1) vr vm rs ms) ∧ Hid (rs.length = i + 1 ∧ ms.length = i + 1 ∧ rs[i]? = some root ∧ ∃ v, ms[i]? = some (v, L)) ∧ Hid (Ht sh rs ms))
  case atStart => exact ⟨0, 0, 0, 0, 0, [], [], [0], [(.slice none 0 0, [])], _, _, by omega, by omega, rfl, rfl, rfl, Stt.start, S2.out, Lo.refl _ _, by omega, M2.out, ⟨rfl, rfl, rfl, _, rfl⟩, fun j r m h1 h2 => by
      obtain rfl : j = 0 := by have := lt_of_some h1; simpa using this
      simp at h1 h2
      rw [← h1, ← h2]
      exact ⟨⟨0, 0, Stt.start.rt, by omega⟩, by simp, by omega⟩⟩
  case round =>
    obtain ⟨i, root, d, f', n, sh, L, rs, ms, vr, vm, hi, rfl, rfl, rfl, rfl, ST, SS, KK, hn, MM, NN, HT⟩ := hrel
    have rl : Hid (root ≤ 1000000) := by
      by_cases z : root = 0
      · exact (by omega : root ≤ 1000000)
      · have := (ST.out.rt.some z).num; have := ST.out.size; exact (by omega : root ≤ 1000000)
    have rl' := rl.out
    have dp : Hid _ := ST.out.deep (by omega)
    have LL : Hid (L.length ≤ 60) := (by have := ST.out.len; omega : L.length ≤ 60)
    obtain ⟨gr, cr, er, r1, r2, r3⟩ := own1 MM.out.rw (by have := NN.out.1; omega)
    obtain ⟨gm, cm, em, m1, m2, m3⟩ := own1 MM.out.mw (by rw [List.length_map]; have := NN.out.2.1; omega)
    have er' : vr = .slice (some ⟨gr, 0, none⟩) (i + 1) cr := by rw [er, NN.out.1]
    have em' : vm = .slice (some ⟨gm, 0, none⟩) (i + 1) cm := by rw [em, List.length_map, NN.out.2.1]
    rw [NN.out.1] at r1
    rw [List.length_map, NN.out.2.1] at m1
    subst er' em'
    unfold maxLen at r2 m2
    clear er em
    by_cases c : i < len
    · have c' : (i : Int) < (len : Int) := by omega
      obtain ⟨vL, hvL⟩ := NN.out.2.2.2
      obtain ⟨xa, xc, xb, IV', f1, f2⟩ := IR2.all (MM.out.it (vL, L) (List.mem_of_getElem? hvL))
      have ev := IV'.v
      dsimp only at ev IV' f1
      subst ev
      have IV : Hid _ := IV'
      have F12 : Hid _ := And.intro f1 f2
      clear IV' f1 f2
      have k0 : wr.cell? ⟨gr, i, none⟩ = some (.int .u64 (root : Nat)) := r3 i _ (by unfold kv; rw [List.getElem?_map, NN.out.2.2.1]; rfl)
      have k1 : Hid (wr.cell? ⟨gm, i, none⟩ = some (.slice xa L.length xc)) := m3 i _ (by rw [List.getElem?_map, hvL]; rfl)
      clear r3 m3
      have z1 : ((i + 1 : Nat) : Int) - 1 = (i : Int) := by omega
      have z2 : IntKind.i64.wrap (i : Int) = (i : Int) := by rw [IntKind.wrap_i64]; omega
      go_upto_region 12 with fail
      obtain ⟨g, o, q1, q2⟩ := H1.out.at_
      have ea := q1 (by omega)
      subst ea
      have AI : Hid _ := q2 i c
      have GL : Hid (g < P) := by have := World.block_lt_of_cell? _ _ (q2 i c).c0; rw [← hP]; exact this
      have DE : Hid (∀ V, Lo wr V P → AcAt V g (o + i * 3) (fn i)) := fun V k => (AI.out.kept (b2.out.block g (by have := GL.out; omega))).kept ((k.low g GL.out (Nat.lt_of_lt_of_le (Nat.lt_of_lt_of_le (by have := GL.out; rw [hP]; exact this) b2.out.size) KK.out.size)).trans (KK.out.low g GL.out (Nat.lt_of_lt_of_le (by have := GL.out; rw [hP]; exact this) b2.out.size)))
      have OKI : Hid _ := OKA.out i c
      have rt : Hid _ := ST.out.rt
      clear q1 q2 AI
      obtain ⟨⟨xk, xv, xd⟩, hx⟩ : ∃ x, x = fn i := ⟨_, rfl⟩
      rw [← hx] at DE OKI
      have PB : Hid (P + 1 ≤ wr.heap.size) := SS.out.lt
      have DD : Hid (∀ V, Below wr.heap.size wr V → V.cell? ⟨gm, i, none⟩ = some (.slice xa L.length xc) ∧ V.cell? ⟨g, o + i * 3, none⟩ = some (.string xk) ∧ V.cell? ⟨g, o + i * 3 + 1, none⟩ = some (.string xv) ∧ V.cell? ⟨g, o + i * 3 + 2, none⟩ = some (.bool xd)) := fun V k => ⟨(World.cell?_of_block (w := wr) (a := ⟨gm, i, none⟩) (k.block gm (World.block_lt_of_cell? _ _ k1.out))).trans k1.out, (DE.out V (Lo.below k)).c0, (DE.out V (Lo.below k)).c1, (DE.out V (Lo.below k)).c2⟩
      have KC : Hid (∀ V, Below wr.heap.size wr V → Calls Try.prog 24 #[.slice xa L.length xc, .agg #[.string xk, .string xv, .bool xd]] V fun e w' => ChgP V w' L xk xv xd e) := fun V k => changed_any V xa xc xb L _ (by
        have q := IV.out
        refine ⟨q.v, q.a, fun j x hj => ?_, fun j x hj => ?_⟩
        · have q0 := q.c0 j x hj
          exact (World.cell?_of_block (w := wr) (a := ⟨xb, j * 2, none⟩) (k.block xb (World.block_lt_of_cell? _ _ q0))).trans q0
        · have q0 := q.c1 j x hj
          exact (World.cell?_of_block (w := wr) (a := ⟨xb, j * 2 + 1, none⟩) (k.block xb (World.block_lt_of_cell? _ _ q0))).trans q0) (by have := LL.out; omega) F12.out.1 F12.out.2 xk xv xd
      clear k0 k1
      refine wp_region_held_drew (S := (fun W => W.cell? ⟨gm, i, none⟩ = some (.slice xa L.length xc) ∧ W.cell? ⟨g, o + i * 3, none⟩ = some (.string xk) ∧ W.cell? ⟨g, o + i * 3 + 1, none⟩ = some (.string xv) ∧ W.cell? ⟨g, o + i * 3 + 2, none⟩ = some (.bool xd))) (by kernel_rfl) (DD.out wr.drew (Below.refl wr.heap.size wr).drew) (fun hHeld => ?_)
      have dr : Hid (Below wr.heap.size wr wr.drew) := (Below.refl wr.heap.size wr).drew
      generalize wr.drew = V at *
      refine take2 rfl (i := 0) (v := (.slice (some ⟨gm, 0, none⟩) (i + 1) cm)) (d := 41) rfl rfl (by kernel_rfl) (by kernel_rfl) (by kernel_rfl) (fun _ _ _ h => h) (Or.inl ⟨by rfl, ?_⟩) hHeld ?_
      · (intro W hW; (try dsimp only at hW); go_simp)
      try simp only [Act.put, List.setIfInBounds_toArray, List.set_cons_zero, List.set_cons_succ]
      refine take2 rfl (i := 1) (v := (.slice (some ⟨gm, 0, none⟩) (i + 1) cm)) (d := 42) rfl rfl (by kernel_rfl) (by kernel_rfl) (by kernel_rfl) (fun _ _ _ h => h) (Or.inl ⟨by rfl, ?_⟩) hHeld ?_
      · (intro W hW; (try dsimp only at hW); go_simp)
      try simp only [Act.put, List.setIfInBounds_toArray, List.set_cons_zero, List.set_cons_succ]
      refine take2 rfl (i := 2) (v := (.int .i64 ((i + 1 : Nat) : Int))) (d := 43) rfl rfl (by kernel_rfl) (by kernel_rfl) (by kernel_rfl) (fun _ _ _ h => h) (Or.inl ⟨by rfl, ?_⟩) hHeld ?_
      · (intro W hW; (try dsimp only at hW); go_simp)
      try simp only [Act.put, List.setIfInBounds_toArray, List.set_cons_zero, List.set_cons_succ]
      refine take2 rfl (i := 3) (v := (.int .i64 (i : Nat))) (d := 44) rfl rfl (by kernel_rfl) (by kernel_rfl) (by kernel_rfl) (fun _ _ _ h => h) (Or.inl ⟨by rfl, ?_⟩) hHeld ?_
      · (intro W hW; (try dsimp only at hW); go_simp)
      try simp only [Act.put, List.setIfInBounds_toArray, List.set_cons_zero, List.set_cons_succ]
      refine take2 rfl (i := 4) (v := (.pointer (some ⟨gm, i, none⟩))) (d := 45) rfl rfl (by kernel_rfl) (by kernel_rfl) (by kernel_rfl) (fun _ _ _ h => h) (Or.inl ⟨by rfl, ?_⟩) hHeld ?_
      · (intro W hW; (try dsimp only at hW); go_simp; (intro q; exact absurd q (by omega)))
      try simp only [Act.put, List.setIfInBounds_toArray, List.set_cons_zero, List.set_cons_succ]
      refine take2 rfl (i := 5) (v := (.slice xa L.length xc)) (d := 46) rfl rfl (by kernel_rfl) (by kernel_rfl) (by kernel_rfl) (fun _ _ _ h => h) (Or.inl ⟨by rfl, ?_⟩) hHeld ?_
      · (intro W hW; (try dsimp only at hW); go_simp)
      try simp only [Act.put, List.setIfInBounds_toArray, List.set_cons_zero, List.set_cons_succ]
      refine take2 rfl (i := 6) (v := (.slice (some ⟨g, o, none⟩) len cap)) (d := 47) rfl rfl (by kernel_rfl) (by kernel_rfl) (by kernel_rfl) (fun _ _ _ h => h) (Or.inl ⟨by rfl, ?_⟩) hHeld ?_
      · (intro W hW; (try dsimp only at hW); go_simp)
      try simp only [Act.put, List.setIfInBounds_toArray, List.set_cons_zero, List.set_cons_succ]
      refine take2 rfl (i := 7) (v := (.int .i64 (i : Nat))) (d := 48) rfl rfl (by kernel_rfl) (by kernel_rfl) (by kernel_rfl) (fun _ _ _ h => h) (Or.inl ⟨by rfl, ?_⟩) hHeld ?_
      · (intro W hW; (try dsimp only at hW); go_simp)
      try simp only [Act.put, List.setIfInBounds_toArray, List.set_cons_zero, List.set_cons_succ]
      refine take2 rfl (i := 8) (v := (.pointer (some ⟨g, o + i * 3, none⟩))) (d := 49) rfl rfl (by kernel_rfl) (by kernel_rfl) (by kernel_rfl) (fun _ _ _ h => h) (Or.inl ⟨by rfl, ?_⟩) hHeld ?_
      · (intro W hW; (try dsimp only at hW); go_simp)
      try simp only [Act.put, List.setIfInBounds_toArray, List.set_cons_zero, List.set_cons_succ]
      refine take2 rfl (i := 9) (v := (.agg #[.string xk, .string xv, .bool xd])) (d := 50) rfl rfl (by kernel_rfl) (by kernel_rfl) (by kernel_rfl) (fun _ _ _ h => h) (Or.inl ⟨by rfl, ?_⟩) hHeld ?_
      · (intro W hW; (try dsimp only at hW); go_simp)
      try simp only [Act.put, List.setIfInBounds_toArray, List.set_cons_zero, List.set_cons_succ]
      refine wpAnyH_ready (rs := [10]) (by kernel_rfl) (by simp) ?_
      refine cons2 rfl rfl (fun K9 hK => ?_)
      go_simp
      go_at_call 24
      refine Calls.mono (KC.out V dr.out) ?_
      rintro e U2 ⟨u, rfl, ou, bu⟩
      obtain ⟨ua, uc, ub, IU, f3, f4⟩ := IR2.all ou
      have eu := IU.v
      subst eu
      have OU : Hid _ := own_mono ou (Nat.le_trans PB.out dr.out.size)
      have BU : Hid (Below wr.heap.size wr U2) := nextB dr.out bu
      clear ou bu f3 f4 IU KC
      go_wp2_with fail
      refine hK.out _ _ (DD.out U2 BU.out) (fun hX => ?_)
      clear hK K9 hHeld
      have hHeld := hX
      clear hX
      try simp only [Act.put, List.setIfInBounds_toArray, List.set_cons_zero, List.set_cons_succ]
      refine take2 rfl (i := 11) (v := (.slice ua (chg xk xv xd L).length uc)) (d := 8) rfl rfl (by kernel_rfl) (by kernel_rfl) (by kernel_rfl) (fun _ _ _ h => h) (Or.inl ⟨by rfl, ?_⟩) hHeld ?_
      · (intro W hW; (try dsimp only at hW); go_simp)
      try simp only [Act.put, List.setIfInBounds_toArray, List.set_cons_zero, List.set_cons_succ]
      refine wpAnyH_done (by kernel_rfl) ?_ _
      clear hHeld DD dr
      have MV : Hid _ := MM.out.below BU.out
      have SV : Hid _ := SS.out.below BU.out
      have LV : Hid _ := KK.out.trans (Lo.below BU.out)
      have DV : Hid (∀ V, Kp U2 V P → AcAt V g (o + i * 3) ⟨xk, xv, xd⟩) := fun V k => DE.out V ((Lo.below BU.out).trans k.lo)
      have c0 := (DV.out U2 (Kp.refl _ _)).c0
      have c1 := (DV.out U2 (Kp.refl _ _)).c1
      have c2 := (DV.out U2 (Kp.refl _ _)).c2
      dsimp only at c0 c1 c2
      clear MM SS KK DE IV BU
      generalize hM : chg xk xv xd L = M at *
      have HM : Hid _ := hM
      clear hM
      cases xd with
      | true =>
        have K : Hid _ := dropS P sh 0 n root d xk L f' U2 SV.out (by omega) (by omega) (Or.inl rfl) rt.out OKI.out.1 (by have := LL.out; omega) (by have := ST.out.size; omega) (by have := dp.out; omega)
        unfold ifP at K
        go_wp2_with fail
        refine Calls.mono K.out ?_
        rintro e w4 ⟨D1, D2⟩
        by_cases m : ∃ x ∈ L, x.1 = xk
        · rcases D1 m with ⟨n', rfl, s4, k4, _, l4, _⟩ | ⟨_, _, _, _, q⟩
          case inr => exact absurd q (by omega)
          obtain ⟨d', f2, st', t, et⟩ := ST.out.drop (by omega) m
          rw [← chg_drop rt.out.srt xk xv, HM.out] at st'
          generalize dropT d sh root xk = R at *
          obtain ⟨sh', root'⟩ := R
          dsimp only at st' s4 et
          have ET : Hid _ := et
          have SA : Hid _ := And.intro st' (And.intro s4 k4)
          clear D1 D2 s4 k4 st' K c0 c1 c2 et
          have sn := SA.out.1.len
          have rl2 : Hid (root' ≤ 1000000) := by
            by_cases z : root' = 0
            · exact (by omega : root' ≤ 1000000)
            · have := (SA.out.1.rt.some z).num; have := SA.out.1.size; exact (by omega : root' ≤ 1000000)
          have rl3 := rl2.out
          have dp2 : Hid _ := SA.out.1.deep (by omega)
          have PL : Hid (P < P + 1) := Nat.lt_succ_self P
          have M4 : Hid _ := MV.out.kp SA.out.2.2 PL.out
          have O4 : Hid _ := ownsRow_kept OU.out (own_kp OU.out SA.out.2.2 PL.out (by decide))
          have bA : Hid _ := allocB w4 (.cells #[.int .u64 (root' : Nat)] 27)
          have hA : Hid ((w4.alloc (.cells #[.int .u64 (root' : Nat)] 27)).heap[w4.heap.size]? = some (.cells #[.int .u64 (root' : Nat)] 27 (0, 0))) := heap_alloc_new w4 _
          have M5 : Hid _ := M4.out.below bA.out
          have S5 : Hid _ := SA.out.2.1.below bA.out
          have O5 : Hid ((w4.alloc (.cells #[.int .u64 (root' : Nat)] 27)).ownsRow (P + 1) 61 2 (.slice ua M.length uc) M.length (cI M)) := ownsI_below O4.out bA.out
          have L5 : Hid _ := (LV.out.trans SA.out.2.2.lo).trans (Lo.below (P := P) bA.out)
          have N1 : Hid (rs.length ≤ 1000000) := (by have := NN.out.1; omega : rs.length ≤ 1000000)
          have Z5 : Hid (P + 1 ≤ (w4.alloc (.cells #[.int .u64 (root' : Nat)] 27)).heap.size) := Nat.le_of_lt_succ (Nat.succ_lt_succ S5.out.lt)
          go_upto_region 22 with (at_builtin; refine wpList_append_nt _ rfl (.tmp 92) (.tmp 94) 39 rfl _ _ rfl rfl _ (roots_more M5.out.rw M5.out.rz root' N1.out w4.heap.size hA.out Z5.out _) ?_; rintro r6 w6 q6)
          have M6 : Hid _ := M5.out.root q6
          have S6 : Hid _ := S5.out.root M5.out.rw PL.out q6
          have L6 : Hid _ := L5.out.trans (RmP.lo M5.out.rw PL.out q6)
          have O6 : Hid _ := ownsRow_kept O5.out (fun g e => q6.2.1.block g (World.ownsRow.lt O5.out g e).2 (fun e2 => own_apart M5.out.rw O5.out (by decide) e2 e))
          clear q6 M4 M5 S5 L5 O4 O5 bA hA Z5 OU MV LV SV
          have bB : Hid _ := allocB w6 (.cells #[.slice ua M.length uc] 33)
          have hB : Hid ((w6.alloc (.cells #[.slice ua M.length uc] 33)).heap[w6.heap.size]? = some (.cells #[.slice ua M.length uc] 33 (0, 0))) := heap_alloc_new w6 _
          have M7 : Hid _ := M6.out.below bB.out
          have S7 : Hid _ := S6.out.below bB.out
          have O7 : Hid _ := ownsI_below O6.out bB.out
          have L7 : Hid _ := L6.out.trans (Lo.below (P := P) bB.out)
          have N2 : Hid ((ms.map (·.1)).length ≤ 1000000) := (by rw [List.length_map]; have := NN.out.2.1; omega : (ms.map (·.1)).length ≤ 1000000)
          have Z7 : Hid (P + 1 ≤ (w6.alloc (.cells #[.slice ua M.length uc] 33)).heap.size) := Nat.le_of_lt_succ (Nat.succ_lt_succ S7.out.lt)
          go_upto_region 10 with (at_builtin; refine wpList_append_nt _ rfl (.tmp 96) (.tmp 98) 67 rfl _ _ rfl rfl _ (maps_more M7.out.mw M7.out.mz ua M.length uc N2.out w6.heap.size hB.out Z7.out _) ?_; rintro r8 w8 q8)
          have M8 : Hid _ := M7.out.map q8 O7.out
          have S8 : Hid _ := S7.out.map M7.out.mw M7.out.mz PL.out q8
          have L8 : Hid _ := L7.out.trans (MmP.lo M7.out.mw PL.out q8)
          have N8 : Hid ((rs ++ [root']).length = i + 1 + 1 ∧ (ms ++ [(Value.slice ua M.length uc, M)]).length = i + 1 + 1 ∧ (rs ++ [root'])[i + 1]? = some root' ∧ ∃ v, (ms ++ [(Value.slice ua M.length uc, M)])[i + 1]? = some (v, M)) := by
            obtain ⟨y1, y2, _⟩ := NN.out
            refine ⟨by simp [y1], by simp [y2], ?_, .slice ua M.length uc, ?_⟩
            · rw [← y1, List.getElem?_concat_length]
            · rw [← y2, List.getElem?_concat_length]
          have H8 : Hid (Ht sh' (rs ++ [root']) (ms ++ [(Value.slice ua M.length uc, M)])) := by
            have q := HT.out
            have q2 : Ht sh' rs ms := by rw [ET.out]; exact q.app
            exact q2.snoc (by rw [NN.out.1, NN.out.2.1]) ⟨⟨d', f2, SA.out.1.rt, dp2.out⟩, (by have := SA.out.1.len; omega : M.length ≤ 60), rl2.out⟩
          have ST8 : Hid _ := SA.out.1
          clear q8 M6 M7 S6 S7 L6 L7 O6 O7 bB hB Z7 SA
          go_wp2
          go_roundg (len - (i + 1))
          case measure => omega
          case rel => exact ⟨i + 1, root', d', f2, n', sh', M, rs ++ [root'], ms ++ [(Value.slice ua M.length uc, M)], r6, r8, by omega, rfl, by go_num, rfl, rfl, ST8.out, S8.out, L8.out, by omega, M8.out, N8.out, H8.out⟩
        · rcases D2 m with ⟨n', rfl, s4, k4, _, l4, _⟩ | ⟨_, _, _, _, q⟩
          case inr => exact absurd q (by omega)
          have st' := ST.out.skip
          have em : L = M := by rw [← HM.out, chg_none m]
          rw [em] at st'
          obtain ⟨sh', es⟩ : ∃ sh', sh' = sh := ⟨_, rfl⟩
          obtain ⟨root', e2⟩ : ∃ root', root' = root := ⟨_, rfl⟩
          obtain ⟨d', e3⟩ : ∃ d', d' = d := ⟨_, rfl⟩
          obtain ⟨f2, e4⟩ : ∃ f2, f2 = f' := ⟨_, rfl⟩
          rw [← es, ← e2, ← e3, ← e4] at st'
          dsimp only at s4
          rw [← es] at s4
          have ET : Hid (∃ t, sh' = sh ++ t) := ⟨[], by rw [es, List.append_nil]⟩
          obtain ⟨t, et⟩ := ET.out
          have ET : Hid _ := et
          have SA : Hid _ := And.intro st' (And.intro s4 k4)
          clear D1 D2 s4 k4 st' K c0 c1 c2 et es e3 e4 em
          subst e2
          have sn := SA.out.1.len
          have rl2 : Hid (root' ≤ 1000000) := by
            by_cases z : root' = 0
            · exact (by omega : root' ≤ 1000000)
            · have := (SA.out.1.rt.some z).num; have := SA.out.1.size; exact (by omega : root' ≤ 1000000)
          have rl3 := rl2.out
          have dp2 : Hid _ := SA.out.1.deep (by omega)
          have PL : Hid (P < P + 1) := Nat.lt_succ_self P
          have M4 : Hid _ := MV.out.kp SA.out.2.2 PL.out
          have O4 : Hid _ := ownsRow_kept OU.out (own_kp OU.out SA.out.2.2 PL.out (by decide))
          have bA : Hid _ := allocB w4 (.cells #[.int .u64 (root' : Nat)] 27)
          have hA : Hid ((w4.alloc (.cells #[.int .u64 (root' : Nat)] 27)).heap[w4.heap.size]? = some (.cells #[.int .u64 (root' : Nat)] 27 (0, 0))) := heap_alloc_new w4 _
          have M5 : Hid _ := M4.out.below bA.out
          have S5 : Hid _ := SA.out.2.1.below bA.out
          have O5 : Hid ((w4.alloc (.cells #[.int .u64 (root' : Nat)] 27)).ownsRow (P + 1) 61 2 (.slice ua M.length uc) M.length (cI M)) := ownsI_below O4.out bA.out
          have L5 : Hid _ := (LV.out.trans SA.out.2.2.lo).trans (Lo.below (P := P) bA.out)
          have N1 : Hid (rs.length ≤ 1000000) := (by have := NN.out.1; omega : rs.length ≤ 1000000)
          have Z5 : Hid (P + 1 ≤ (w4.alloc (.cells #[.int .u64 (root' : Nat)] 27)).heap.size) := Nat.le_of_lt_succ (Nat.succ_lt_succ S5.out.lt)
          go_upto_region 22 with (at_builtin; refine wpList_append_nt _ rfl (.tmp 92) (.tmp 94) 39 rfl _ _ rfl rfl _ (roots_more M5.out.rw M5.out.rz root' N1.out w4.heap.size hA.out Z5.out _) ?_; rintro r6 w6 q6)
          have M6 : Hid _ := M5.out.root q6
          have S6 : Hid _ := S5.out.root M5.out.rw PL.out q6
          have L6 : Hid _ := L5.out.trans (RmP.lo M5.out.rw PL.out q6)
          have O6 : Hid _ := ownsRow_kept O5.out (fun g e => q6.2.1.block g (World.ownsRow.lt O5.out g e).2 (fun e2 => own_apart M5.out.rw O5.out (by decide) e2 e))
          clear q6 M4 M5 S5 L5 O4 O5 bA hA Z5 OU MV LV SV
          have bB : Hid _ := allocB w6 (.cells #[.slice ua M.length uc] 33)
          have hB : Hid ((w6.alloc (.cells #[.slice ua M.length uc] 33)).heap[w6.heap.size]? = some (.cells #[.slice ua M.length uc] 33 (0, 0))) := heap_alloc_new w6 _
          have M7 : Hid _ := M6.out.below bB.out
          have S7 : Hid _ := S6.out.below bB.out
          have O7 : Hid _ := ownsI_below O6.out bB.out
          have L7 : Hid _ := L6.out.trans (Lo.below (P := P) bB.out)
          have N2 : Hid ((ms.map (·.1)).length ≤ 1000000) := (by rw [List.length_map]; have := NN.out.2.1; omega : (ms.map (·.1)).length ≤ 1000000)
          have Z7 : Hid (P + 1 ≤ (w6.alloc (.cells #[.slice ua M.length uc] 33)).heap.size) := Nat.le_of_lt_succ (Nat.succ_lt_succ S7.out.lt)
          go_upto_region 10 with (at_builtin; refine wpList_append_nt _ rfl (.tmp 96) (.tmp 98) 67 rfl _ _ rfl rfl _ (maps_more M7.out.mw M7.out.mz ua M.length uc N2.out w6.heap.size hB.out Z7.out _) ?_; rintro r8 w8 q8)
          have M8 : Hid _ := M7.out.map q8 O7.out
          have S8 : Hid _ := S7.out.map M7.out.mw M7.out.mz PL.out q8
          have L8 : Hid _ := L7.out.trans (MmP.lo M7.out.mw PL.out q8)
          have N8 : Hid ((rs ++ [root']).length = i + 1 + 1 ∧ (ms ++ [(Value.slice ua M.length uc, M)]).length = i + 1 + 1 ∧ (rs ++ [root'])[i + 1]? = some root' ∧ ∃ v, (ms ++ [(Value.slice ua M.length uc, M)])[i + 1]? = some (v, M)) := by
            obtain ⟨y1, y2, _⟩ := NN.out
            refine ⟨by simp [y1], by simp [y2], ?_, .slice ua M.length uc, ?_⟩
            · rw [← y1, List.getElem?_concat_length]
            · rw [← y2, List.getElem?_concat_length]
          have H8 : Hid (Ht sh' (rs ++ [root']) (ms ++ [(Value.slice ua M.length uc, M)])) := by
            have q := HT.out
            have q2 : Ht sh' rs ms := by rw [ET.out]; exact q.app
            exact q2.snoc (by rw [NN.out.1, NN.out.2.1]) ⟨⟨d', f2, SA.out.1.rt, dp2.out⟩, (by have := SA.out.1.len; omega : M.length ≤ 60), rl2.out⟩
          have ST8 : Hid _ := SA.out.1
          clear q8 M6 M7 S6 S7 L6 L7 O6 O7 bB hB Z7 SA
          go_wp2
          go_roundg (len - (i + 1))
          case measure => omega
          case rel => exact ⟨i + 1, root', d', f2, n', sh', M, rs ++ [root'], ms ++ [(Value.slice ua M.length uc, M)], r6, r8, by omega, rfl, by go_num, rfl, rfl, ST8.out, S8.out, L8.out, by omega, M8.out, N8.out, H8.out⟩
      | false =>
        have KP : Hid (∀ V, Below U2.heap.size U2 V → Calls Try.prog 10 #[.iface 23 (.pointer (some ⟨P, 0, none⟩)), .int .u64 (root : Nat), .string xk, .string xv] V fun e w' => ChS V w' P sh 0 n (putT d sh root xk xv) 0 e) := fun V b => putS P sh 0 n root d xk xv L f' V (SV.out.below b) (by omega) (by omega) (Or.inl rfl) rt.out OKI.out.1 OKI.out.2 (by have := LL.out; omega) (by have := ST.out.size; omega) (by have := dp.out; omega)
        have DD : Hid (∀ V, Kp U2 V P → V.cell? ⟨g, o + i * 3, none⟩ = some (.string xk) ∧ V.cell? ⟨g, o + i * 3 + 1, none⟩ = some (.string xv)) := fun V k => ⟨(DV.out V k).c0, (DV.out V k).c1⟩
        go_upto_region 18 with fail
        clear c0 c1 c2
        refine wp_region_held_drew (S := (fun W => W.cell? ⟨g, o + i * 3, none⟩ = some (.string xk) ∧ W.cell? ⟨g, o + i * 3 + 1, none⟩ = some (.string xv))) (by kernel_rfl) ⟨(DD.out U2.drew (Kp.of_below (Below.refl U2.heap.size U2).drew P)).1, (DD.out U2.drew (Kp.of_below (Below.refl U2.heap.size U2).drew P)).2⟩ (fun hHeld => ?_)
        have dr : Hid (Below U2.heap.size U2 U2.drew) := (Below.refl U2.heap.size U2).drew
        generalize U2.drew = V at *
        have D1 : Hid _ := DD.out V (Kp.of_below dr.out P)
        refine take2 rfl (i := 0) (v := (.pointer (some ⟨P, 0, none⟩))) (d := 74) rfl rfl (by kernel_rfl) (by kernel_rfl) (by kernel_rfl) (fun _ _ _ h => h) (Or.inl ⟨by rfl, ?_⟩) hHeld ?_
        · (intro W hW; (try dsimp only at hW); go_simp)
        try simp only [Act.put, List.setIfInBounds_toArray, List.set_cons_zero, List.set_cons_succ]
        refine take2 rfl (i := 1) (v := (.iface 23 (.pointer (some ⟨P, 0, none⟩)))) (d := 75) rfl rfl (by kernel_rfl) (by kernel_rfl) (by kernel_rfl) (fun _ _ _ h => h) (Or.inl ⟨by rfl, ?_⟩) hHeld ?_
        · (intro W hW; (try dsimp only at hW); go_simp)
        try simp only [Act.put, List.setIfInBounds_toArray, List.set_cons_zero, List.set_cons_succ]
        refine take2 rfl (i := 2) (v := (.int .u64 (root : Nat))) (d := 76) rfl rfl (by kernel_rfl) (by kernel_rfl) (by kernel_rfl) (fun _ _ _ h => h) (Or.inl ⟨by rfl, ?_⟩) hHeld ?_
        · (intro W hW; (try dsimp only at hW); go_simp)
        try simp only [Act.put, List.setIfInBounds_toArray, List.set_cons_zero, List.set_cons_succ]
        refine take2 rfl (i := 3) (v := (.slice (some ⟨g, o, none⟩) len cap)) (d := 77) rfl rfl (by kernel_rfl) (by kernel_rfl) (by kernel_rfl) (fun _ _ _ h => h) (Or.inl ⟨by rfl, ?_⟩) hHeld ?_
        · (intro W hW; (try dsimp only at hW); go_simp)
        try simp only [Act.put, List.setIfInBounds_toArray, List.set_cons_zero, List.set_cons_succ]
        refine take2 rfl (i := 4) (v := (.int .i64 (i : Nat))) (d := 78) rfl rfl (by kernel_rfl) (by kernel_rfl) (by kernel_rfl) (fun _ _ _ h => h) (Or.inl ⟨by rfl, ?_⟩) hHeld ?_
        · (intro W hW; (try dsimp only at hW); go_simp)
        try simp only [Act.put, List.setIfInBounds_toArray, List.set_cons_zero, List.set_cons_succ]
        refine take2 rfl (i := 5) (v := (.pointer (some ⟨g, o + i * 3, none⟩))) (d := 79) rfl rfl (by kernel_rfl) (by kernel_rfl) (by kernel_rfl) (fun _ _ _ h => h) (Or.inl ⟨by rfl, ?_⟩) hHeld ?_
        · (intro W hW; (try dsimp only at hW); go_simp)
        try simp only [Act.put, List.setIfInBounds_toArray, List.set_cons_zero, List.set_cons_succ]
        refine take2 rfl (i := 6) (v := (.pointer (some ⟨g, o + i * 3, none⟩))) (d := 80) rfl rfl (by kernel_rfl) (by kernel_rfl) (by kernel_rfl) (fun _ _ _ h => h) (Or.inl ⟨by rfl, ?_⟩) hHeld ?_
        · (intro W hW; (try dsimp only at hW); go_simp)
        try simp only [Act.put, List.setIfInBounds_toArray, List.set_cons_zero, List.set_cons_succ]
        refine take2 rfl (i := 7) (v := (.string xk)) (d := 81) rfl rfl (by kernel_rfl) (by kernel_rfl) (by kernel_rfl) (fun _ _ _ h => h) (Or.inl ⟨by rfl, ?_⟩) hHeld ?_
        · (intro W hW; (try dsimp only at hW); go_simp)
        try simp only [Act.put, List.setIfInBounds_toArray, List.set_cons_zero, List.set_cons_succ]
        refine take2 rfl (i := 8) (v := (.slice (some ⟨g, o, none⟩) len cap)) (d := 82) rfl rfl (by kernel_rfl) (by kernel_rfl) (by kernel_rfl) (fun _ _ _ h => h) (Or.inl ⟨by rfl, ?_⟩) hHeld ?_
        · (intro W hW; (try dsimp only at hW); go_simp)
        try simp only [Act.put, List.setIfInBounds_toArray, List.set_cons_zero, List.set_cons_succ]
        refine take2 rfl (i := 9) (v := (.int .i64 (i : Nat))) (d := 83) rfl rfl (by kernel_rfl) (by kernel_rfl) (by kernel_rfl) (fun _ _ _ h => h) (Or.inl ⟨by rfl, ?_⟩) hHeld ?_
        · (intro W hW; (try dsimp only at hW); go_simp)
        try simp only [Act.put, List.setIfInBounds_toArray, List.set_cons_zero, List.set_cons_succ]
        refine take2 rfl (i := 10) (v := (.pointer (some ⟨g, o + i * 3, none⟩))) (d := 84) rfl rfl (by kernel_rfl) (by kernel_rfl) (by kernel_rfl) (fun _ _ _ h => h) (Or.inl ⟨by rfl, ?_⟩) hHeld ?_
        · (intro W hW; (try dsimp only at hW); go_simp)
        try simp only [Act.put, List.setIfInBounds_toArray, List.set_cons_zero, List.set_cons_succ]
        refine take2 rfl (i := 11) (v := (.pointer (some ⟨g, o + i * 3 + 1, none⟩))) (d := 85) rfl rfl (by kernel_rfl) (by kernel_rfl) (by kernel_rfl) (fun _ _ _ h => h) (Or.inl ⟨by rfl, ?_⟩) hHeld ?_
        · (intro W hW; (try dsimp only at hW); go_simp)
        try simp only [Act.put, List.setIfInBounds_toArray, List.set_cons_zero, List.set_cons_succ]
        refine take2 rfl (i := 12) (v := (.string xv)) (d := 86) rfl rfl (by kernel_rfl) (by kernel_rfl) (by kernel_rfl) (fun _ _ _ h => h) (Or.inl ⟨by rfl, ?_⟩) hHeld ?_
        · (intro W hW; (try dsimp only at hW); go_simp)
        try simp only [Act.put, List.setIfInBounds_toArray, List.set_cons_zero, List.set_cons_succ]
        refine wpAnyH_ready (rs := [13]) (by kernel_rfl) (by simp) ?_
        refine cons2 rfl rfl (fun K9 hK => ?_)
        go_simp
        go_at_call 10
        refine Calls.mono (KP.out V dr.out) ?_
        rintro e V2 CS
        have K2 : Hid (Kp U2 V2 P) := by
          rcases CS with ⟨_, _, _, k, _⟩ | ⟨_, _, _, k, _⟩
          · exact (Kp.of_below dr.out P).trans k
          · exact (Kp.of_below dr.out P).trans k
        have D2 : Hid _ := DD.out V2 K2.out
        rcases CS with ⟨n', rfl, s4, k4, _, l4, _⟩ | ⟨_, _, _, _, q⟩
        case inr => exact absurd q (by omega)
        obtain ⟨d', f2, st', _, t, et⟩ := ST.out.put (k := xk) (v := xv) (by omega) OKI.out.1 OKI.out.2
        rw [← chg_put rt.out.srt, HM.out] at st'
        generalize putT d sh root xk xv = R at *
        obtain ⟨sh', root'⟩ := R
        dsimp only at st' s4 et
        have ET : Hid _ := et
        have SA : Hid _ := And.intro st' (And.intro s4 K2.out)
        clear s4 k4 st' KP et
        go_wp2_with fail
        refine hK.out _ _ D2.out (fun hX => ?_)
        clear hK K9 hHeld
        have hHeld := hX
        clear hX
        try simp only [Act.put, List.setIfInBounds_toArray, List.set_cons_zero, List.set_cons_succ]
        refine take2 rfl (i := 14) (v := (.tuple #[.int .u64 (root' : Nat), .int .i64 0])) (d := 73) rfl rfl (by kernel_rfl) (by kernel_rfl) (by kernel_rfl) (fun _ _ _ h => h) (Or.inl ⟨by rfl, ?_⟩) hHeld ?_
        · (intro W hW; (try dsimp only at hW); go_simp)
        try simp only [Act.put, List.setIfInBounds_toArray, List.set_cons_zero, List.set_cons_succ]
        refine take2 rfl (i := 15) (v := (.int .u64 (root' : Nat))) (d := 88) rfl rfl (by kernel_rfl) (by kernel_rfl) (by kernel_rfl) (fun _ _ _ h => h) (Or.inl ⟨by rfl, ?_⟩) hHeld ?_
        · (intro W hW; (try dsimp only at hW); go_simp)
        try simp only [Act.put, List.setIfInBounds_toArray, List.set_cons_zero, List.set_cons_succ]
        refine take2 rfl (i := 16) (v := (.int .i64 0)) (d := 89) rfl rfl (by kernel_rfl) (by kernel_rfl) (by kernel_rfl) (fun _ _ _ h => h) (Or.inl ⟨by rfl, ?_⟩) hHeld ?_
        · (intro W hW; (try dsimp only at hW); go_simp)
        try simp only [Act.put, List.setIfInBounds_toArray, List.set_cons_zero, List.set_cons_succ]
        refine take2 rfl (i := 17) (v := (.int .u64 (root' : Nat))) (d := 9) rfl rfl (by kernel_rfl) (by kernel_rfl) (by kernel_rfl) (fun _ _ _ h => h) (Or.inl ⟨by rfl, ?_⟩) hHeld ?_
        · (intro W hW; (try dsimp only at hW); go_simp)
        try simp only [Act.put, List.setIfInBounds_toArray, List.set_cons_zero, List.set_cons_succ]
        refine take2 rfl (i := 18) (v := (.int .i64 0)) (d := 10) rfl rfl (by kernel_rfl) (by kernel_rfl) (by kernel_rfl) (fun _ _ _ h => h) (Or.inl ⟨by rfl, ?_⟩) hHeld ?_
        · (intro W hW; (try dsimp only at hW); go_simp)
        try simp only [Act.put, List.setIfInBounds_toArray, List.set_cons_zero, List.set_cons_succ]
        refine wpAnyH_done (by kernel_rfl) ?_ _
        clear hHeld D1 D2 DD
        have sn := SA.out.1.len
        have rl2 : Hid (root' ≤ 1000000) := by
          by_cases z : root' = 0
          · exact (by omega : root' ≤ 1000000)
          · have := (SA.out.1.rt.some z).num; have := SA.out.1.size; exact (by omega : root' ≤ 1000000)
        have rl3 := rl2.out
        have dp2 : Hid _ := SA.out.1.deep (by omega)
        have PL : Hid (P < P + 1) := Nat.lt_succ_self P
        have M4 : Hid _ := MV.out.kp SA.out.2.2 PL.out
        have O4 : Hid _ := ownsRow_kept OU.out (own_kp OU.out SA.out.2.2 PL.out (by decide))
        have bA : Hid _ := allocB V2 (.cells #[.int .u64 (root' : Nat)] 27)
        have hA : Hid ((V2.alloc (.cells #[.int .u64 (root' : Nat)] 27)).heap[V2.heap.size]? = some (.cells #[.int .u64 (root' : Nat)] 27 (0, 0))) := heap_alloc_new V2 _
        have M5 : Hid _ := M4.out.below bA.out
        have S5 : Hid _ := SA.out.2.1.below bA.out
        have O5 : Hid ((V2.alloc (.cells #[.int .u64 (root' : Nat)] 27)).ownsRow (P + 1) 61 2 (.slice ua M.length uc) M.length (cI M)) := ownsI_below O4.out bA.out
        have L5 : Hid _ := (LV.out.trans SA.out.2.2.lo).trans (Lo.below (P := P) bA.out)
        have N1 : Hid (rs.length ≤ 1000000) := (by have := NN.out.1; omega : rs.length ≤ 1000000)
        have Z5 : Hid (P + 1 ≤ (V2.alloc (.cells #[.int .u64 (root' : Nat)] 27)).heap.size) := Nat.le_of_lt_succ (Nat.succ_lt_succ S5.out.lt)
        go_upto_region 22 with (at_builtin; refine wpList_append_nt _ rfl (.tmp 92) (.tmp 94) 39 rfl _ _ rfl rfl _ (roots_more M5.out.rw M5.out.rz root' N1.out V2.heap.size hA.out Z5.out _) ?_; rintro r6 w6 q6)
        have M6 : Hid _ := M5.out.root q6
        have S6 : Hid _ := S5.out.root M5.out.rw PL.out q6
        have L6 : Hid _ := L5.out.trans (RmP.lo M5.out.rw PL.out q6)
        have O6 : Hid _ := ownsRow_kept O5.out (fun g e => q6.2.1.block g (World.ownsRow.lt O5.out g e).2 (fun e2 => own_apart M5.out.rw O5.out (by decide) e2 e))
        clear q6 M4 M5 S5 L5 O4 O5 bA hA Z5 OU MV LV SV
        have bB : Hid _ := allocB w6 (.cells #[.slice ua M.length uc] 33)
        have hB : Hid ((w6.alloc (.cells #[.slice ua M.length uc] 33)).heap[w6.heap.size]? = some (.cells #[.slice ua M.length uc] 33 (0, 0))) := heap_alloc_new w6 _
        have M7 : Hid _ := M6.out.below bB.out
        have S7 : Hid _ := S6.out.below bB.out
        have O7 : Hid _ := ownsI_below O6.out bB.out
        have L7 : Hid _ := L6.out.trans (Lo.below (P := P) bB.out)
        have N2 : Hid ((ms.map (·.1)).length ≤ 1000000) := (by rw [List.length_map]; have := NN.out.2.1; omega : (ms.map (·.1)).length ≤ 1000000)
        have Z7 : Hid (P + 1 ≤ (w6.alloc (.cells #[.slice ua M.length uc] 33)).heap.size) := Nat.le_of_lt_succ (Nat.succ_lt_succ S7.out.lt)
        go_upto_region 10 with (at_builtin; refine wpList_append_nt _ rfl (.tmp 96) (.tmp 98) 67 rfl _ _ rfl rfl _ (maps_more M7.out.mw M7.out.mz ua M.length uc N2.out w6.heap.size hB.out Z7.out _) ?_; rintro r8 w8 q8)
        have M8 : Hid _ := M7.out.map q8 O7.out
        have S8 : Hid _ := S7.out.map M7.out.mw M7.out.mz PL.out q8
        have L8 : Hid _ := L7.out.trans (MmP.lo M7.out.mw PL.out q8)
        have N8 : Hid ((rs ++ [root']).length = i + 1 + 1 ∧ (ms ++ [(Value.slice ua M.length uc, M)]).length = i + 1 + 1 ∧ (rs ++ [root'])[i + 1]? = some root' ∧ ∃ v, (ms ++ [(Value.slice ua M.length uc, M)])[i + 1]? = some (v, M)) := by
          obtain ⟨y1, y2, _⟩ := NN.out
          refine ⟨by simp [y1], by simp [y2], ?_, .slice ua M.length uc, ?_⟩
          · rw [← y1, List.getElem?_concat_length]
          · rw [← y2, List.getElem?_concat_length]
        have H8 : Hid (Ht sh' (rs ++ [root']) (ms ++ [(Value.slice ua M.length uc, M)])) := by
          have q := HT.out
          have q2 : Ht sh' rs ms := by rw [ET.out]; exact q.app
          exact q2.snoc (by rw [NN.out.1, NN.out.2.1]) ⟨⟨d', f2, SA.out.1.rt, dp2.out⟩, (by have := SA.out.1.len; omega : M.length ≤ 60), rl2.out⟩
        have ST8 : Hid _ := SA.out.1
        clear q8 M6 M7 S6 S7 L6 L7 O6 O7 bB hB Z7 SA
        go_wp2
        go_roundg (len - (i + 1))
        case measure => omega
        case rel => exact ⟨i + 1, root', d', f2, n', sh', M, rs ++ [root'], ms ++ [(Value.slice ua M.length uc, M)], r6, r8, by omega, rfl, by go_num, rfl, rfl, ST8.out, S8.out, L8.out, by omega, M8.out, N8.out, H8.out⟩
    · obtain rfl : len = i := by omega
      have PL : Hid (P < P + 1) := Nat.lt_succ_self P
      clear r3 m3
      go_upto_region 24 with fail
      go_loopg [11] (len + 1) (fun g iv wq => ∃ (j n : Nat), j ≤ len + 1 ∧ g = len + 1 - j ∧ iv = .int .i64 (j : Nat) ∧ Hid (SH wq P sh 0 n) ∧ n ≤ 6000 + 3000 * j ∧ Hid (MP wq (P + 1) (.slice (some ⟨gr, 0, none⟩) (len + 1) cr) (.slice (some ⟨gm, 0, none⟩) (len + 1) cm) rs ms) ∧ Hid (Lo w2 wq P))
      case atStart => exact ⟨0, n, by omega, rfl, rfl, SS.out, by omega, MM.out, KK.out⟩
      case round =>
        clear SS MM KK
        obtain ⟨j, n2, hj, rfl, rfl, SS, hn2, MM, KK⟩ := hrel
        by_cases cj : j < len + 1
        · have cj' : (j : Int) < (len : Int) + 1 := by omega
          obtain ⟨rj, hr⟩ : ∃ r, rs[j]? = some r := ⟨_, List.getElem?_eq_getElem (by have := NN.out.1; omega)⟩
          obtain ⟨⟨vj, Lj⟩, hm⟩ : ∃ m, ms[j]? = some m := ⟨_, List.getElem?_eq_getElem (by have := NN.out.2.1; omega)⟩
          obtain ⟨⟨dj, fj, rtj, dpj⟩, llj, rlj⟩ := HT.out j rj _ hr hm
          dsimp only at rtj llj
          have RTJ : Hid _ := rtj
          obtain ⟨ya, yc, yb, IV', f1, f2⟩ := IR2.all (MM.out.it (vj, Lj) (List.mem_of_getElem? hm))
          have ev := IV'.v
          dsimp only at ev IV' f1
          subst ev
          have OJ : Hid (wr.ownsRow (P + 1) 61 2 (.slice ya Lj.length yc) Lj.length (cI Lj)) := MM.out.it (_, Lj) (List.mem_of_getElem? hm)
          clear IV' rtj
          have k0 : wr.cell? ⟨gr, j, none⟩ = some (.int .u64 (rj : Nat)) := own1c MM.out.rw j _ (by unfold kv; rw [List.getElem?_map, hr]; rfl)
          have HMJ : Hid ((ms.map (·.1))[j]? = some (.slice ya Lj.length yc)) := by rw [List.getElem?_map, hm]; rfl
          have TK : (rng Lj ByteArray.empty ByteArray.empty).take (1000 : Int).toNat = Lj := by rw [rng_all, List.take_of_length_le (by omega : Lj.length ≤ (1000 : Int).toNat)]
          have RNG : Hid (Calls Try.prog 12 #[.iface 23 (.pointer (some ⟨P, 0, none⟩)), .int .u64 (rj : Nat), .string ByteArray.empty, .string ByteArray.empty, .int .i64 1000] wr fun e w' => RaS wr w' P sh n2 Lj e) := by
            have q := rangeS P sh n2 rj dj ByteArray.empty ByteArray.empty 1000 Lj fj wr SS.out (by omega) RTJ.out (by omega) SS.out.max (by omega)
            rw [TK] at q
            exact q
          clear TK hr hm
          go_wp2_with fail
          refine Calls.mono RNG.out ?_
          rintro e wa ⟨va, na, rfl, oa, sa, ka, _, la⟩
          have MA : Hid _ := MM.out.kp ka PL.out
          have SA : Hid _ := sa
          have LA : Hid _ := KK.out.trans ka.lo
          have OJ2 : Hid (wa.ownsRow (P + 1) 61 2 (.slice ya Lj.length yc) Lj.length (cI Lj)) := ownsRow_kept OJ.out (own_kp OJ.out ka PL.out (by decide))
          obtain ⟨xa, xc, xb, IA, f3, f4⟩ := IR2.all oa
          obtain ⟨ya', yc', yb', IB⟩ := IR2.of OJ2.out
          have ea := IA.v
          have eb := IB.v
          subst ea
          injection eb with eb1 eb2 eb3
          subst eb1 eb3
          have k1 : wa.cell? ⟨gm, j, none⟩ = some (.slice ya Lj.length yc) := own1c MA.out.mw j _ HMJ.out
          have K1 : Hid _ := k1
          clear oa sa ka RNG MM KK SS OJ k0 eb2
          go_upto_region 30 with fail
          clear k1
          go_loopg [14] Lj.length (fun g iv wq => ∃ k : Nat, k ≤ Lj.length ∧ g = Lj.length - k ∧ iv = .int .i64 (k : Nat) ∧ Hid (Below wa.heap.size wa wq))
          case atStart => exact ⟨0, by omega, rfl, rfl, Below.refl _ _⟩
          case round =>
            obtain ⟨k, hk, rfl, rfl, BQ⟩ := hrel
            by_cases ck : k < Lj.length
            · have ck' : (k : Int) < (Lj.length : Int) := by omega
              obtain ⟨x, hx⟩ : ∃ x, Lj[k]? = some x := ⟨_, List.getElem?_eq_getElem ck⟩
              have kq : ∀ (b i : Nat) (u : Value), wa.cell? ⟨b, i, none⟩ = some u → wr.cell? ⟨b, i, none⟩ = some u := fun b i u q => (World.cell?_of_block (w := wa) (a := ⟨b, i, none⟩) (BQ.out.block b (World.block_lt_of_cell? _ _ q))).trans q
              have pa := IA.a (by omega)
              have pb := IB.a (by omega)
              subst pa pb
              have a0 := kq _ _ _ (IA.c0 k x hx)
              have a1 := kq _ _ _ (IA.c1 k x hx)
              have b0 := kq _ _ _ (IB.c0 k x hx)
              have b1 := kq _ _ _ (IB.c1 k x hx)
              have k2 := kq _ _ _ K1.out
              clear kq hx
              obtain ⟨x1, x2⟩ := x
              dsimp only at a0 a1 b0 b1
              go_upto_region 32 with fail
              go_quiet (fail)
              have BQ2 : Hid _ := nextB BQ.out (drewB wr nq)
              generalize wr.drewN nq = wr2 at *
              clear a0 a1 b0 b1 k2
              go_wp2
              go_roundg (Lj.length - (k + 1))
              case measure => omega
              case rel => exact ⟨k + 1, by omega, rfl, by go_num, BQ2.out⟩
            · obtain rfl : k = Lj.length := by omega
              have MF : Hid _ := MA.out.below BQ.out
              have SF : Hid _ := SA.out.below BQ.out
              have LF : Hid _ := LA.out.trans (Lo.below (P := P) BQ.out)
              clear MA SA LA IA IB K1 OJ2 BQ
              go_wp2
              go_roundg (len + 1 - (j + 1))
              case measure => omega
              case rel => exact ⟨j + 1, na, by omega, rfl, by go_num, SF.out, by omega, MF.out, LF.out⟩
        · obtain rfl : j = len + 1 := by omega
          have FIN : Hid _ := lo_end hP B1.out b2.out KK.out
          go_wp2
          go_ret
          exact ⟨rfl, FIN.out⟩


set_option maxRecDepth 100000 in
theorem lifted (os : Os) (started : os.Started) (H : Type) (enc : TypeId × Value → H) :
    ReturnsInHanded {} Try.checked os 5 .any (Rows.treeMapSpec.pre6 enc Try.prog Try.f5 Rows.treeMapRow.domain false) (Rows.treeMapSpec.post enc Try.prog Try.f5 false true false false) := by
  refine returnsInHanded_of_change_sized (C := Try.checked) own started (by kernel_rfl) Try.func5
    (ChangeSpec.witness6 (enc := enc) (C := Try.checked) false ⟨#[], #[.slice none 0 0], []⟩ 8 (by kernel_rfl) (by kernel_rfl) (by kernel_rfl) (by kernel_rfl)) ?_
  intro W base args ds gs before hval0 hW hcnd hwt _
  have hval : ∀ (j : Nat) t v, Try.f5.params[j]? = some t → args[j]? = some v → Value.okWide Try.prog W .any base t v := hval0
  have hwz : ∀ (j : Nat) t d, (Try.f5.params.toList ++ Rows.treeMapSpec.plain.varTypes Try.prog)[j]? = some t → (ds ++ gs)[j]? = some d → ∀ n ∈ d.weights Try.prog t, n ≤ reachBytes := fun j t d ht hd n hn => by
    simpa using List.all_eq_true.1 hwt n (DataW.weights_mem_each ht hd n hn)
  have hW' := hW
  obtain ⟨p, q, hA0, hV, rfl, hfz, hnd⟩ := hW
  have hA : DataW.TrodAll enc Try.prog W 0 (fun _ => true) true Try.f5.params.toList args.toList ds p := hA0
  rw [Try.params5] at hA hval hwz
  obtain ⟨v0, vs0, d0, ds0, p0, q0, hargs, rfl, rfl, h0, r0⟩ := trodAll_cons hA
  obtain ⟨rfl, rfl, rfl⟩ := trodAll_nil r0
  obtain rfl : args = #[v0] := by cases args; simp_all
  obtain ⟨rfl, rfl⟩ := trodVars_none hV
  have k0 := h0
  have lt0 : ∀ x ∈ p0, x.block < W.heap.size := by obtain ⟨m, hm⟩ := k0; exact DataW.trod_lt m _ _ _ hm
  obtain ⟨a0, len0, cap0, rfl⟩ := okWide_slice Try.underlying36 (hval 0 36 v0 rfl rfl)
  obtain ⟨f0, w0⟩ : ∃ f, Acts W a0 len0 cap0 f := by
    obtain ⟨fuel, hf⟩ := h0
    exact acts_of hf
  clear hA0 hval0
  try simp only [List.append_nil, List.nil_append] at hW'
  refine (walk W a0 len0 cap0 f0 w0).mono fun e W' ⟨he, bel⟩ => ?_
  subst he
  exact ⟨_, rfl, _, _, _, [], _, [], hW', trodAll_mk1 (shut_bool Try.underlying4 _), (trodAll_cons_mk (Below.trod laidOut (by kernel_rfl) (of_decide_eq_true (by kernel_rfl)) k0 bel lt0) trodAll_mk0), rfl, bel.frame _, fun h => by cases h⟩

theorem over : Rows.treeMapRow.holds Try.pinned (OpenSpec.ofChange Rows.treeMapSpec) :=
  OpenClaim.holds_of_wide 5 Try.f5 rfl rfl rfl rfl rfl rfl rfl ⟨rfl, rfl, rfl, rfl, rfl⟩ rfl rfl rfl rfl rfl (by kernel_rfl) Try.func5 (by kernel_rfl)
    (of_decide_eq_true (by kernel_rfl)) (by unfold Func.isWrapper; first | (rw [if_pos (by decide +kernel)]; kernel_rfl) | (rw [if_neg (by decide +kernel)]; exact ⟨rfl, rfl⟩))
    (fun os started H enc _ => lifted os started H enc)

end Go.Proofs.Ythdjghmipepppaa.treeMap
namespace Go.Proofs.Ythdjghmipepppaa

theorem TreeMap_holds : Rows.TreeMapSaid := treeMap.over

end Go.Proofs.Ythdjghmipepppaa
