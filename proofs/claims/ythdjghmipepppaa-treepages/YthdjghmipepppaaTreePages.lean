/- Proved: the law TreePages of package publicanlaw7 returns true at every start, whatever memory it starts in, on every schedule; no condition. -/
import Derived.Test.YthdjghmipepppaaNh
import Derived.Lib.SmallJoins
import Derived.SizedLaws
namespace Go.Proofs.Ythdjghmipepppaa.treePages
open Go.ChangeShapes Go.WideShapes Go.ChangeAt Go.RowKit Go.Deep Go.Joins Go.Maps Go.ChangeMaps
set_option linter.unusedVariables false
set_option linter.unusedSimpArgs false

attribute [local go_sem] Oper.semAt_some

set_option maxRecDepth 100000 in
set_option maxHeartbeats 32000000 in
theorem walk (W : World) (a0 : Option Addr) (len cap : Nat) (fn : Nat → Ac) (h : Acts W a0 len cap fn) :
    Calls Try.prog 6 #[.slice a0 len cap] W fun e w' => e = .returned (.bool true) ∧ Below W.heap.size W w' := by
  have H : Hid _ := h
  have mx := h.max
  have mf := h.fits
  unfold maxLen at mx
  clear h
  go_enter Try.func6, Try.ntmps6
  go_wp2_with fail
  refine Calls.mono (awake_any W) ?_
  rintro e w0 ⟨rfl, b0'⟩
  have B0 : Hid _ := b0'
  have H0 : Hid _ := H.out.below b0'
  clear b0' H
  go_wp2_with fail
  refine Calls.mono (small_any w0 a0 len cap fn H0.out) ?_
  rintro e w1 ⟨b, rfl, OK', b1'⟩
  have OK : Hid _ := OK'
  have B1 : Hid _ := nextB B0.out b1'
  have H1 : Hid _ := H0.out.below b1'
  clear b1' OK' H0 B0
  cases b with
  | false =>
    go_wp2_with fail
    go_ret
    exact ⟨rfl, B1.out⟩
  | true =>
  have LN : Hid _ := (OK.out rfl).1
  have OKA : Hid _ := (OK.out rfl).2
  have ln := LN.out
  clear OK
  have b2 : Hid _ := allocB w1 (.cells #[.slice none 0 0, .int .i64 0, .int .i64 0] 26)
  have S2 : Hid _ := SH.new w1
  go_upto_region 8 with fail
  generalize w1.alloc (.cells #[.slice none 0 0, .int .i64 0, .int .i64 0] 26) = w2 at *
  generalize hP : w1.heap.size = P at *
  go_loopg [4, 5] len (fun g rv iv wr => ∃ (i root d f' n : Nat) (sh : List Pg) (L : List It), i ≤ len ∧ g = len - i ∧ rv = .int .u64 (root : Nat) ∧ iv = .int .i64 (i : Nat) ∧ Hid (Ust sh root L d f' i) ∧ Hid (SH wr P sh 0 n) ∧ Hid (Kp w2 wr P) ∧ n ≤ 100 * i)
  case atStart => exact ⟨0, 0, 0, 0, 0, [], [], by omega, by omega, rfl, rfl, Ust.start, S2.out, Kp.refl _ _, by omega⟩
  case round =>
    obtain ⟨i, root, d, f', n, sh, L, hi, rfl, rfl, rfl, ST, SS, KK, hn⟩ := hrel
    have rl : Hid (root ≤ 1000000) := by
      by_cases z : root = 0
      · exact (by omega : root ≤ 1000000)
      · have := (ST.out.st.rt.some z).num; have := ST.out.st.size; exact (by omega : root ≤ 1000000)
    have rl' := rl.out
    have dp : Hid _ := ST.out.st.deep (by omega)
    by_cases c : i < len
    · have c' : (i : Int) < (len : Int) := by omega
      obtain ⟨g, o, q1, q2⟩ := H1.out.at_
      have ea := q1 (by omega)
      subst ea
      have AI : Hid _ := q2 i c
      have GL : Hid (g < P) := by have := World.block_lt_of_cell? _ _ (q2 i c).c0; rw [← hP]; exact this
      have DE : Hid (∀ V, Kp wr V P → AcAt V g (o + i * 3) (fn i)) := fun V k => (AI.out.kept (b2.out.block g (by have := GL.out; omega))).kept ((k.low g GL.out (Nat.lt_of_lt_of_le (Nat.lt_of_lt_of_le (by have := GL.out; rw [hP]; exact this) b2.out.size) KK.out.size)).trans (KK.out.low g GL.out (Nat.lt_of_lt_of_le (by have := GL.out; rw [hP]; exact this) b2.out.size)))
      have OKI : Hid _ := OKA.out i c
      have rt : Hid _ := ST.out.st.rt
      clear q1 q2 AI
      obtain ⟨⟨xk, xv, xd⟩, hx⟩ : ∃ x, x = fn i := ⟨_, rfl⟩
      rw [← hx] at DE OKI
      have c0 := (DE.out wr (Kp.refl _ _)).c0
      have c1 := (DE.out wr (Kp.refl _ _)).c1
      have c2 := (DE.out wr (Kp.refl _ _)).c2
      dsimp only at c0 c1 c2
      cases xd with
      | true =>
        have X : Hid _ := ST.out.skip
        clear c0 c1
        go_wp2
        go_roundg (len - (i + 1))
        case measure => omega
        case rel => exact ⟨i + 1, root, d, f', n, _, _, by omega, rfl, rfl, by go_num, X.out, SS.out, KK.out, by omega⟩
      | false =>
        have KP : Hid (∀ V, Below wr.heap.size wr V → Calls Try.prog 10 #[.iface 23 (.pointer (some ⟨P, 0, none⟩)), .int .u64 (root : Nat), .string xk, .string xv] V fun e w' => ChS V w' P sh 0 n (putT d sh root xk xv) 0 e) := fun V b => putS P sh 0 n root d xk xv L f' V (SS.out.below b) (by omega) (by omega) (Or.inl rfl) rt.out OKI.out.1 OKI.out.2 (by have := ST.out.st.len; omega) (by have := ST.out.st.size; omega) (by have := dp.out; omega)
        have DD : Hid (∀ V, Kp wr V P → V.cell? ⟨g, o + i * 3, none⟩ = some (.string xk) ∧ V.cell? ⟨g, o + i * 3 + 1, none⟩ = some (.string xv)) := fun V k => ⟨(DE.out V k).c0, (DE.out V k).c1⟩
        go_upto_region 11 with fail
        clear c0 c1 c2 DE
        refine wp_region_held_drew (S := (fun W => W.cell? ⟨g, o + i * 3, none⟩ = some (.string xk) ∧ W.cell? ⟨g, o + i * 3 + 1, none⟩ = some (.string xv))) (by kernel_rfl) ⟨(DD.out wr.drew (Kp.of_below (Below.refl wr.heap.size wr).drew P)).1, (DD.out wr.drew (Kp.of_below (Below.refl wr.heap.size wr).drew P)).2⟩ (fun hHeld => ?_)
        have dr : Hid (Below wr.heap.size wr wr.drew) := (Below.refl wr.heap.size wr).drew
        generalize wr.drew = V at *
        have D1 : Hid _ := DD.out V (Kp.of_below dr.out P)
        refine take2 rfl (i := 0) (v := (.pointer (some ⟨P, 0, none⟩))) (d := 36) rfl rfl (by kernel_rfl) (by kernel_rfl) (by kernel_rfl) (fun _ _ _ h => h) (Or.inl ⟨by rfl, ?_⟩) hHeld ?_
        · (intro W hW; (try dsimp only at hW); go_simp)
        try simp only [Act.put, List.setIfInBounds_toArray, List.set_cons_zero, List.set_cons_succ]
        refine take2 rfl (i := 1) (v := (.iface 23 (.pointer (some ⟨P, 0, none⟩)))) (d := 37) rfl rfl (by kernel_rfl) (by kernel_rfl) (by kernel_rfl) (fun _ _ _ h => h) (Or.inl ⟨by rfl, ?_⟩) hHeld ?_
        · (intro W hW; (try dsimp only at hW); go_simp)
        try simp only [Act.put, List.setIfInBounds_toArray, List.set_cons_zero, List.set_cons_succ]
        refine take2 rfl (i := 2) (v := (.int .u64 (root : Nat))) (d := 38) rfl rfl (by kernel_rfl) (by kernel_rfl) (by kernel_rfl) (fun _ _ _ h => h) (Or.inl ⟨by rfl, ?_⟩) hHeld ?_
        · (intro W hW; (try dsimp only at hW); go_simp)
        try simp only [Act.put, List.setIfInBounds_toArray, List.set_cons_zero, List.set_cons_succ]
        refine take2 rfl (i := 3) (v := (.slice (some ⟨g, o, none⟩) len cap)) (d := 39) rfl rfl (by kernel_rfl) (by kernel_rfl) (by kernel_rfl) (fun _ _ _ h => h) (Or.inl ⟨by rfl, ?_⟩) hHeld ?_
        · (intro W hW; (try dsimp only at hW); go_simp)
        try simp only [Act.put, List.setIfInBounds_toArray, List.set_cons_zero, List.set_cons_succ]
        refine take2 rfl (i := 4) (v := (.int .i64 (i : Nat))) (d := 40) rfl rfl (by kernel_rfl) (by kernel_rfl) (by kernel_rfl) (fun _ _ _ h => h) (Or.inl ⟨by rfl, ?_⟩) hHeld ?_
        · (intro W hW; (try dsimp only at hW); go_simp)
        try simp only [Act.put, List.setIfInBounds_toArray, List.set_cons_zero, List.set_cons_succ]
        refine take2 rfl (i := 5) (v := (.pointer (some ⟨g, o + i * 3, none⟩))) (d := 41) rfl rfl (by kernel_rfl) (by kernel_rfl) (by kernel_rfl) (fun _ _ _ h => h) (Or.inl ⟨by rfl, ?_⟩) hHeld ?_
        · (intro W hW; (try dsimp only at hW); go_simp)
        try simp only [Act.put, List.setIfInBounds_toArray, List.set_cons_zero, List.set_cons_succ]
        refine take2 rfl (i := 6) (v := (.pointer (some ⟨g, o + i * 3, none⟩))) (d := 42) rfl rfl (by kernel_rfl) (by kernel_rfl) (by kernel_rfl) (fun _ _ _ h => h) (Or.inl ⟨by rfl, ?_⟩) hHeld ?_
        · (intro W hW; (try dsimp only at hW); go_simp)
        try simp only [Act.put, List.setIfInBounds_toArray, List.set_cons_zero, List.set_cons_succ]
        refine take2 rfl (i := 7) (v := (.string xk)) (d := 43) rfl rfl (by kernel_rfl) (by kernel_rfl) (by kernel_rfl) (fun _ _ _ h => h) (Or.inl ⟨by rfl, ?_⟩) hHeld ?_
        · (intro W hW; (try dsimp only at hW); go_simp)
        try simp only [Act.put, List.setIfInBounds_toArray, List.set_cons_zero, List.set_cons_succ]
        refine take2 rfl (i := 8) (v := (.slice (some ⟨g, o, none⟩) len cap)) (d := 44) rfl rfl (by kernel_rfl) (by kernel_rfl) (by kernel_rfl) (fun _ _ _ h => h) (Or.inl ⟨by rfl, ?_⟩) hHeld ?_
        · (intro W hW; (try dsimp only at hW); go_simp)
        try simp only [Act.put, List.setIfInBounds_toArray, List.set_cons_zero, List.set_cons_succ]
        refine take2 rfl (i := 9) (v := (.int .i64 (i : Nat))) (d := 45) rfl rfl (by kernel_rfl) (by kernel_rfl) (by kernel_rfl) (fun _ _ _ h => h) (Or.inl ⟨by rfl, ?_⟩) hHeld ?_
        · (intro W hW; (try dsimp only at hW); go_simp)
        try simp only [Act.put, List.setIfInBounds_toArray, List.set_cons_zero, List.set_cons_succ]
        refine take2 rfl (i := 10) (v := (.pointer (some ⟨g, o + i * 3, none⟩))) (d := 46) rfl rfl (by kernel_rfl) (by kernel_rfl) (by kernel_rfl) (fun _ _ _ h => h) (Or.inl ⟨by rfl, ?_⟩) hHeld ?_
        · (intro W hW; (try dsimp only at hW); go_simp)
        try simp only [Act.put, List.setIfInBounds_toArray, List.set_cons_zero, List.set_cons_succ]
        refine take2 rfl (i := 11) (v := (.pointer (some ⟨g, o + i * 3 + 1, none⟩))) (d := 47) rfl rfl (by kernel_rfl) (by kernel_rfl) (by kernel_rfl) (fun _ _ _ h => h) (Or.inl ⟨by rfl, ?_⟩) hHeld ?_
        · (intro W hW; (try dsimp only at hW); go_simp)
        try simp only [Act.put, List.setIfInBounds_toArray, List.set_cons_zero, List.set_cons_succ]
        refine take2 rfl (i := 12) (v := (.string xv)) (d := 48) rfl rfl (by kernel_rfl) (by kernel_rfl) (by kernel_rfl) (fun _ _ _ h => h) (Or.inl ⟨by rfl, ?_⟩) hHeld ?_
        · (intro W hW; (try dsimp only at hW); go_simp)
        try simp only [Act.put, List.setIfInBounds_toArray, List.set_cons_zero, List.set_cons_succ]
        refine wpAnyH_ready (rs := [13]) (by kernel_rfl) (by simp) ?_
        refine cons2 rfl rfl (fun K9 hK => ?_)
        go_simp
        go_at_call 10
        refine Calls.mono (KP.out V dr.out) ?_
        rintro e V2 CS
        have K2 : Hid (Kp wr V2 P) := by
          rcases CS with ⟨_, _, _, k, _⟩ | ⟨_, _, _, k, _⟩
          · exact (Kp.of_below dr.out P).trans k
          · exact (Kp.of_below dr.out P).trans k
        have D2 : Hid _ := DD.out V2 K2.out
        rcases CS with ⟨n', rfl, s4, k4, _, l4, _⟩ | ⟨_, _, _, _, q⟩
        case inr => exact absurd q (by omega)
        obtain ⟨d', f2, st', _⟩ := ST.out.put (k := xk) (v := xv) (by omega) OKI.out.1 OKI.out.2
        have X : Hid _ := And.intro st' (And.intro s4 (KK.out.trans K2.out))
        clear s4 k4 st' KP
        go_wp2_with fail
        refine hK.out _ _ D2.out (fun hX => ?_)
        clear hK K9 hHeld
        have hHeld := hX
        clear hX
        try simp only [Act.put, List.setIfInBounds_toArray, List.set_cons_zero, List.set_cons_succ]
        refine take2 rfl (i := 14) (v := (.tuple #[.int .u64 ((putT d sh root xk xv).2 : Nat), .int .i64 0])) (d := 35) rfl rfl (by kernel_rfl) (by kernel_rfl) (by kernel_rfl) (fun _ _ _ h => h) (Or.inl ⟨by rfl, ?_⟩) hHeld ?_
        · (intro W hW; (try dsimp only at hW); go_simp)
        try simp only [Act.put, List.setIfInBounds_toArray, List.set_cons_zero, List.set_cons_succ]
        refine take2 rfl (i := 15) (v := (.int .u64 ((putT d sh root xk xv).2 : Nat))) (d := 50) rfl rfl (by kernel_rfl) (by kernel_rfl) (by kernel_rfl) (fun _ _ _ h => h) (Or.inl ⟨by rfl, ?_⟩) hHeld ?_
        · (intro W hW; (try dsimp only at hW); go_simp)
        try simp only [Act.put, List.setIfInBounds_toArray, List.set_cons_zero, List.set_cons_succ]
        refine take2 rfl (i := 16) (v := (.int .i64 0)) (d := 51) rfl rfl (by kernel_rfl) (by kernel_rfl) (by kernel_rfl) (fun _ _ _ h => h) (Or.inl ⟨by rfl, ?_⟩) hHeld ?_
        · (intro W hW; (try dsimp only at hW); go_simp)
        try simp only [Act.put, List.setIfInBounds_toArray, List.set_cons_zero, List.set_cons_succ]
        refine take2 rfl (i := 17) (v := (.int .u64 ((putT d sh root xk xv).2 : Nat))) (d := 6) rfl rfl (by kernel_rfl) (by kernel_rfl) (by kernel_rfl) (fun _ _ _ h => h) (Or.inl ⟨by rfl, ?_⟩) hHeld ?_
        · (intro W hW; (try dsimp only at hW); go_simp)
        try simp only [Act.put, List.setIfInBounds_toArray, List.set_cons_zero, List.set_cons_succ]
        refine take2 rfl (i := 18) (v := (.int .i64 0)) (d := 7) rfl rfl (by kernel_rfl) (by kernel_rfl) (by kernel_rfl) (fun _ _ _ h => h) (Or.inl ⟨by rfl, ?_⟩) hHeld ?_
        · (intro W hW; (try dsimp only at hW); go_simp)
        try simp only [Act.put, List.setIfInBounds_toArray, List.set_cons_zero, List.set_cons_succ]
        refine wpAnyH_done (by kernel_rfl) ?_ _
        clear hHeld D1 D2 DD
        go_wp2
        go_roundg (len - (i + 1))
        case measure => omega
        case rel => exact ⟨i + 1, _, d', f2, n', _, _, by omega, rfl, rfl, by go_num, X.out.1, X.out.2.1, X.out.2.2, by omega⟩
    · obtain rfl : i = len := by omega
      obtain ⟨PW', FL', DM', ZZ'⟩ := ST.out.pages (by omega)
      have PW : Hid _ := PW'
      have FL : Hid _ := FL'
      have ZZ : Hid _ := ZZ'
      have DM : Hid _ := DM'
      clear PW' FL' ZZ' DM'
      have LL : Hid (L.length ≤ 120) := (by have := ST.out.st.len; omega : L.length ≤ 120)
      have shl : Hid (sh.length ≤ 7200) := (by have := ST.out.st.size; omega : sh.length ≤ 7200)
      have PGL : Hid ((pagesR d sh root).length ≤ 1680) := Nat.le_trans (pagesR_len ST.out.st.rt) (Nat.mul_le_mul dp.out LL.out)
      have K1 : Hid _ := pagesS P sh n root d L f' wr SS.out (by omega) ST.out.st.rt (by have := LL.out; omega) (by have := shl.out; omega) (by have := dp.out; omega)
      unfold ifP at K1
      go_wp2_with fail
      refine Calls.mono K1.out ?_
      rintro e wa ⟨va, na, rfl, oa, sa, ka, _, la⟩
      have OA : Hid _ := oa
      have K2 : Hid _ := deepS P sh na root d L f' wa sa (by omega) ST.out.st.rt (by have := LL.out; omega) (by have := shl.out; omega) (by have := dp.out; omega)
      unfold ifP at K2
      rw [DM.out] at K2
      have KA : Hid _ := ka
      have PL : Hid (P < wr.heap.size) := SS.out.lt
      clear oa sa ka K1 DM
      go_wp2_with fail
      refine Calls.mono K2.out ?_
      rintro e wb ⟨nb, rfl, sb, kb, _, lb⟩
      have KB : Hid _ := (KK.out.trans KA.out).trans kb
      have OB : Hid (wb.ownsRow wr.heap.size 27 1 va (pagesR d sh root).length (kv ((pagesR d sh root).map (·.1)))) := ownsRow_kept OA.out (own_kp OA.out kb PL.out (by decide))
      obtain ⟨sl, vs, s, _⟩ := sb
      have SB : Hid _ := s
      clear s kb K2 OA KA SS KK
      have ep : ∃ b, ((root : Int) == 0) = b ∧ ((d : Int) == 0) = b := by
        have q := ZZ.out
        by_cases z : root = 0
        · have z2 := q.1 z
          subst z z2
          exact ⟨true, rfl, rfl⟩
        · have z2 : d ≠ 0 := fun e => z (q.2 e)
          exact ⟨false, by simpa using z, by simpa using z2⟩
      obtain ⟨bz, hb1, hb2⟩ := ep
      generalize hl : pagesR d sh root = l at *
      clear hl
      obtain ⟨a4, c4, e4, f4⟩ : ∃ a c, va = .slice a l.length c ∧ l.length ≤ c := by
        rcases OB.out.2 with ⟨q1, q2⟩ | ⟨g, cap, cur, hv, _, _, q, _⟩
        · exact ⟨none, 0, by rw [q2]; exact q1, by omega⟩
        · exact ⟨_, _, hv, q⟩
      subst e4
      have pgl := PGL.out
      go_upto_region 21 with fail
      clear hb1 hb2
      go_loopg [12, 13] l.length (fun g lv iv wr => ∃ (j n : Nat) (la : ByteArray), j ≤ l.length ∧ g = l.length - j ∧ lv = .string la ∧ iv = .int .i64 (j : Nat) ∧ Hid (la = lst sh l j [] 0) ∧ Hid (Shf wr P sl vs sh 0 n) ∧ Hid (Gw wb wr P none) ∧ n ≤ 20000 + j)
      case atStart => exact ⟨0, nb, ByteArray.empty, by omega, by omega, rfl, rfl, rfl, SB.out, Gw.refl _ _ _, by omega⟩
      case round =>
        obtain ⟨j, n2, la2, hj, rfl, rfl, rfl, LA, S3, G3, hn2⟩ := hrel
        by_cases cj : j < l.length
        · have cj' : (j : Int) < (l.length : Int) := by omega
          obtain ⟨⟨nx, lx⟩, hx⟩ : ∃ x, l[j]? = some x := ⟨_, List.getElem?_eq_getElem cj⟩
          have HX : Hid _ := hx
          obtain ⟨p, pw'⟩ := PW.out (nx, lx) (List.mem_of_getElem? hx)
          dsimp only at pw'
          have PG : Hid _ := pw'
          have O3 : Hid _ := own_gw OB.out G3.out PL.out
          obtain ⟨gr, cr, er, r1, r2, r3⟩ := own1 O3.out (by omega)
          injection er with er1 er2 er3
          subst er1 er3
          have k0 : wr.cell? ⟨gr, j, none⟩ = some (.int .u64 (nx : Nat)) := r3 j _ (by unfold kv; rw [List.getElem?_map, List.getElem?_map, hx]; rfl)
          have xl : nx ≤ 1000000 := by
            have := pgAt_lt pw'.at_
            have := shl.out
            omega
          have K1 : Hid _ := sPage_ok P sl vs sh 0 n2 nx p wr S3.out (by omega) (by omega) (by omega) pw'.at_ (by have := shl.out; omega)
          clear hx pw' r1 r2 r3 er2
          go_wp2_with fail
          refine Calls.mono K1.out ?_
          rintro e w3 ⟨y, rfl, hm', pv', s3', g3'⟩
          have pv : Hid _ := pv'
          have S4 : Hid _ := s3'
          have G4 : Hid _ := G3.out.trans g3' (Or.inl rfl)
          clear pv' s3' g3' hm' K1 k0 S3 G3 O3
          obtain ⟨lf, ka, kn, kc, va, vn, vc, ia, im, ic⟩ := y
          dsimp only [V4.agg] at pv ⊢
          have b3 : Hid _ := allocB w3 (.cells #[.bool lf, .slice ka kn kc, .slice va vn vc, .slice ia im ic] 54)
          have BP : Hid (w3.heap.size ≠ P) := (by have := S4.out.lt; omega : w3.heap.size ≠ P)
          have Y : Hid (Lv wb (w3.alloc (.cells #[.bool lf, .slice ka kn kc, .slice va vn vc, .slice ia im ic] 54)) P w3.heap.size sl vs sh (n2 + 1) lf (.slice ka kn kc) (.slice va vn vc) (.slice ia im ic) p) := ⟨Bq.new w3 _ _ _ _ _, pv.out.below b3.out, S4.out.below b3.out, Gw.next G4.out b3.out⟩
          go_upto_region 24 with fail
          generalize w3.alloc (.cells #[.bool lf, .slice ka kn kc, .slice va vn vc, .slice ia im ic] 54) = w4 at *
          clear pv S4 G4 b3
          generalize w3.heap.size = B at *
          obtain ⟨y0, y1, y2, y3⟩ := Y.out.box.b4
          have KG : Hid _ := Good_any _ p w4 Y.out.pv PG.out.fit.bd
          rw [PG.out.good] at KG
          go_wp2_with fail
          refine Calls.mono KG.out ?_
          rintro e w5 ⟨rfl, b5⟩
          have Y5 : Hid _ := Y.out.low b5
          clear b5 y0 y1 y2 y3 KG Y
          obtain ⟨y0, y1, y2, y3⟩ := Y5.out.box.b4
          have KB2 : Hid _ := Bytes_any _ p w5 Y5.out.pv PG.out.fit
          have n9 : ¬ (900 : Int) < ((encP p).length : Int) := by have := PG.out.small; omega
          generalize (encP p).length = en at *
          go_wp2_with fail
          refine Calls.mono KB2.out ?_
          rintro e w6 ⟨rfl, b6⟩
          have Y6 : Hid _ := Y5.out.low b6
          clear b6 y0 y1 y2 y3 KB2 Y5
          obtain ⟨y0, y1, y2, y3⟩ := Y6.out.box.b4
          obtain ⟨el', kk, ki⟩ := Y6.out.pv.kidsSl
          have el : Hid _ := el'
          have kl := ki.klen
          have sln : p.keys.length = kn := by have := kk.len; simpa [sv] using this
          have few := PG.out.few
          clear ki kk el'
          cases lf with
          | false =>
            have k2 : ¬ (im : Int) < 2 := by have := PG.out.kids el.out.symm; omega
            have kz : (0 : Int) < (kn : Int) := by have := PG.out.kids el.out.symm; have := (goodB_branch PG.out.good el.out.symm).2; omega
            have LB : Hid (la2 = lst sh l (j + 1) [] 0) := by
              have e1 : lk sh nx = [] := by rw [lk_at PG.out.at_, ← el.out]; rfl
              rw [lst_page HX.out e1]
              exact LA.out
            go_upto_region 27 with fail
            clear y0 y1 y2 y3
            go_loopg [12, 16] 0 (fun g lv iv wr => g = 0 ∧ lv = .string la2 ∧ iv = .int .i64 (0 : Nat) ∧ w6 = wr)
            case atStart => exact ⟨rfl, rfl, rfl, rfl⟩
            case round =>
              obtain ⟨rfl, rfl, rfl, rfl⟩ := hrel
              obtain ⟨y0, y1, y2, y3⟩ := Y6.out.box.b4
              have S9 : Hid _ := Y6.out.shf
              have G9 : Hid _ := Y6.out.gw
              go_wp2
              go_roundg (l.length - (j + 1))
              case measure => omega
              case rel => exact ⟨j + 1, n2 + 1, la2, by omega, rfl, rfl, by go_num, LB.out, S9.out, G9.out, by omega⟩
          | true =>
            have e1 : Hid (lk sh nx = p.keys) := by
              show lk sh nx = p.keys
              rw [lk_at PG.out.at_, ← el.out]
              rfl
            have LS : Hid (la2 = lst sh l j p.keys 0) := (by rw [LA.out]; unfold lst; simp : la2 = lst sh l j p.keys 0)
            go_upto_region 27 with fail
            clear y0 y1 y2 y3
            go_loopg [12, 16] kn (fun g lv iv wr => ∃ (k : Nat) (lb : ByteArray), k ≤ kn ∧ g = kn - k ∧ lv = .string lb ∧ iv = .int .i64 (k : Nat) ∧ Hid (lb = lst sh l j p.keys k) ∧ w6 = wr)
            case atStart => exact ⟨0, la2, by omega, by omega, rfl, rfl, LS.out, rfl⟩
            case round =>
              obtain ⟨k, lb, hk, rfl, rfl, rfl, LB, rfl⟩ := hrel
              obtain ⟨y0, y1, y2, y3⟩ := Y6.out.box.b4
              by_cases ck : k < kn
              · have ck' : (k : Int) < (kn : Int) := by omega
                have SK := Y6.out.pv.kidsSl.2.1
                obtain ⟨kb, ko, rfl, _⟩ := SK.at (by omega)
                obtain ⟨key, hkey⟩ : ∃ key, p.keys[k]? = some key := ⟨_, List.getElem?_eq_getElem (by omega)⟩
                have kcell : w6.cell? ⟨kb, ko + k, none⟩ = some (.string key) := by
                  have q := SK.str (i := k) (by omega)
                  have e : p.keys.getD k ByteArray.empty = key := by simp [List.getD, hkey]
                  unfold kAt at q
                  rw [e] at q
                  exact q
                have lsT : ltS lb key = true := by
                  have q := lst_less HX.out e1.out FL.out ST.out.st.rt.srt hkey (kz_both (leaf_keys PG.out.good).2 _ (List.mem_of_getElem? hkey)).1
                  rw [← LB.out] at q
                  exact q
                have less : Op.bytesLess key.toList lb.toList = false := ltS_asym lsT
                have neq : (key.toList == lb.toList) = false := by
                  have q := ltS_ne lsT
                  simp only [beq_eq_false_iff_ne, ne_eq]
                  exact fun e => q (toL_inj e.symm)
                clear lsT
                have NX : Hid (key = lst sh l j p.keys (k + 1)) := (lst_next hkey).symm
                clear SK hkey
                go_wp2
                go_roundg (kn - (k + 1))
                case measure => omega
                case rel => exact ⟨k + 1, key, by omega, rfl, rfl, by go_num, NX.out, rfl⟩
              · obtain rfl : k = kn := by omega
                have LC : Hid (lb = lst sh l (j + 1) [] 0) := by
                  show lb = lst sh l (j + 1) [] 0
                  rw [lst_page HX.out e1.out, sln]
                  exact LB.out
                have S9 : Hid _ := Y6.out.shf
                have G9 : Hid _ := Y6.out.gw
                go_wp2
                go_roundg (l.length - (j + 1))
                case measure => omega
                case rel => exact ⟨j + 1, n2 + 1, lb, by omega, rfl, rfl, by go_num, LC.out, S9.out, G9.out, by omega⟩
        · obtain rfl : j = l.length := by omega
          have FB : Hid _ := kp_end hP B1.out b2.out (KB.out.trans G3.out.kp0)
          by_cases z : root = 0
          · have z2 := ZZ.out.1 z
            subst z z2
            go_wp2_with fail
            refine Calls.mono (level_zero _ wr) ?_
            rintro e w9 ⟨rfl, rfl⟩
            go_wp2
            go_ret
            exact ⟨rfl, FB.out⟩
          · have tr := ST.out.st.rt.some z
            have KL : Hid _ := level_any P sl vs sh (by have := shl.out; omega) d root n2 L f' wr S3.out tr (ST.out.uf z) (by have := LL.out; omega) (by have := dp.out; omega) (by have := Nat.mul_le_mul dp.out LL.out; omega)
            clear tr
            go_wp2_with fail
            refine Calls.mono KL.out ?_
            rintro e w9 ⟨rfl, n9, s9, g9, _⟩
            have F9 : Hid _ := kp_end hP B1.out b2.out ((KB.out.trans G3.out.kp0).trans g9.kp0)
            go_wp2
            go_ret
            exact ⟨rfl, F9.out⟩


set_option maxRecDepth 100000 in
theorem lifted (os : Os) (started : os.Started) (H : Type) (enc : TypeId × Value → H) :
    ReturnsInHanded {} Try.checked os 6 .any (Rows.treePagesSpec.pre6 enc Try.prog Try.f6 Rows.treePagesRow.domain false) (Rows.treePagesSpec.post enc Try.prog Try.f6 false true false false) := by
  refine returnsInHanded_of_change_sized (C := Try.checked) own started (by kernel_rfl) Try.func6
    (ChangeSpec.witness6 (enc := enc) (C := Try.checked) false ⟨#[], #[.slice none 0 0], []⟩ 8 (by kernel_rfl) (by kernel_rfl) (by kernel_rfl) (by kernel_rfl)) ?_
  intro W base args ds gs before hval0 hW hcnd hwt _
  have hval : ∀ (j : Nat) t v, Try.f6.params[j]? = some t → args[j]? = some v → Value.okWide Try.prog W .any base t v := hval0
  have hwz : ∀ (j : Nat) t d, (Try.f6.params.toList ++ Rows.treePagesSpec.plain.varTypes Try.prog)[j]? = some t → (ds ++ gs)[j]? = some d → ∀ n ∈ d.weights Try.prog t, n ≤ reachBytes := fun j t d ht hd n hn => by
    simpa using List.all_eq_true.1 hwt n (DataW.weights_mem_each ht hd n hn)
  have hW' := hW
  obtain ⟨p, q, hA0, hV, rfl, hfz, hnd⟩ := hW
  have hA : DataW.TrodAll enc Try.prog W 0 (fun _ => true) true Try.f6.params.toList args.toList ds p := hA0
  rw [Try.params6] at hA hval hwz
  obtain ⟨v0, vs0, d0, ds0, p0, q0, hargs, rfl, rfl, h0, r0⟩ := trodAll_cons hA
  obtain ⟨rfl, rfl, rfl⟩ := trodAll_nil r0
  obtain rfl : args = #[v0] := by cases args; simp_all
  obtain ⟨rfl, rfl⟩ := trodVars_none hV
  have k0 := h0
  have lt0 : ∀ x ∈ p0, x.block < W.heap.size := by obtain ⟨m, hm⟩ := k0; exact DataW.trod_lt m _ _ _ hm
  obtain ⟨a0, len0, cap0, rfl⟩ := okWide_slice Try.underlying36 (hval 0 36 v0 rfl rfl)
  obtain ⟨f0, w0⟩ : ∃ f, Acts W a0 len0 cap0 f := by
    obtain ⟨fuel, hf⟩ := h0
    exact acts_of hf
  clear hA0 hval0
  try simp only [List.append_nil, List.nil_append] at hW'
  refine (walk W a0 len0 cap0 f0 w0).mono fun e W' ⟨he, bel⟩ => ?_
  subst he
  exact ⟨_, rfl, _, _, _, [], _, [], hW', trodAll_mk1 (shut_bool Try.underlying4 _), (trodAll_cons_mk (Below.trod laidOut (by kernel_rfl) (of_decide_eq_true (by kernel_rfl)) k0 bel lt0) trodAll_mk0), rfl, bel.frame _, fun h => by cases h⟩

theorem over : Rows.treePagesRow.holds Try.pinned (OpenSpec.ofChange Rows.treePagesSpec) :=
  OpenClaim.holds_of_wide 6 Try.f6 rfl rfl rfl rfl rfl rfl rfl ⟨rfl, rfl, rfl, rfl, rfl⟩ rfl rfl rfl rfl rfl (by kernel_rfl) Try.func6 (by kernel_rfl)
    (of_decide_eq_true (by kernel_rfl)) (by unfold Func.isWrapper; first | (rw [if_pos (by decide +kernel)]; kernel_rfl) | (rw [if_neg (by decide +kernel)]; exact ⟨rfl, rfl⟩))
    (fun os started H enc _ => lifted os started H enc)

end Go.Proofs.Ythdjghmipepppaa.treePages
namespace Go.Proofs.Ythdjghmipepppaa

theorem TreePages_holds : Rows.TreePagesSaid := treePages.over

end Go.Proofs.Ythdjghmipepppaa
