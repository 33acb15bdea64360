/- Proved: the law TreeRanges of package publicanlaw7 returns true at every start, whatever memory it starts in, on every schedule; no condition. -/
import Derived.Test.YthdjghmipepppaaNd
import Derived.Lib.SmallJoins
import Derived.SizedLaws
namespace Go.Proofs.Ythdjghmipepppaa.treeRanges
open Go.ChangeShapes Go.WideShapes Go.ChangeAt Go.RowKit Go.Deep Go.Joins Go.Maps Go.ChangeMaps
set_option linter.unusedVariables false
set_option linter.unusedSimpArgs false

attribute [local go_sem] Oper.semAt_some

set_option maxRecDepth 100000 in
set_option maxHeartbeats 32000000 in
theorem walk (W : World) (a0 : Option Addr) (len cap : Nat) (fn : Nat → Ac) (h : Acts W a0 len cap fn) (fr mi tt : ByteArray) (most : Int) :
    Calls Try.prog 8 #[.slice a0 len cap, .string fr, .string mi, .string tt, .int .i64 most] W fun e w' => e = .returned (.bool true) ∧ Below W.heap.size W w' := by
  have H : Hid _ := h
  have mx := h.max
  have mf := h.fits
  unfold maxLen at mx
  clear h
  go_enter Try.func8, Try.ntmps8
  go_wp2_with fail
  refine Calls.mono (awake_any W) ?_
  rintro e w0 ⟨rfl, b0'⟩
  have B0 : Hid _ := b0'
  have H0 : Hid _ := H.out.below b0'
  clear b0'
  go_wp2_with fail
  refine Calls.mono (small_any w0 a0 len cap fn H0.out) ?_
  rintro e w1 ⟨b, rfl, OK', b1'⟩
  have OK : Hid _ := OK'
  have B1 : Hid _ := nextB B0.out b1'
  have H1 : Hid _ := H0.out.below b1'
  clear b1' OK'
  cases b with
  | false =>
    go_wp2_with fail
    go_ret
    exact ⟨rfl, B1.out⟩
  | true =>
  have LN : Hid _ := (OK.out rfl).1
  have OKA : Hid _ := (OK.out rfl).2
  have ln := LN.out
  clear OK
  by_cases g1 : 80 < len
  · have g1' : (80 : Int) < (len : Int) := by omega
    go_wp2_with fail
    go_ret
    exact ⟨rfl, B1.out⟩
  have g1' : ¬ (80 : Int) < (len : Int) := by omega
  by_cases g2 : 50 < fr.size
  · have g2' : (50 : Int) < (fr.size : Int) := by omega
    go_wp2_with fail
    go_ret
    exact ⟨rfl, B1.out⟩
  have g2' : ¬ (50 : Int) < (fr.size : Int) := by omega
  by_cases g3 : 50 < mi.size
  · have g3' : (50 : Int) < (mi.size : Int) := by omega
    go_wp2_with fail
    go_ret
    exact ⟨rfl, B1.out⟩
  have g3' : ¬ (50 : Int) < (mi.size : Int) := by omega
  by_cases g4 : 50 < tt.size
  · have g4' : (50 : Int) < (tt.size : Int) := by omega
    go_wp2_with fail
    go_ret
    exact ⟨rfl, B1.out⟩
  have g4' : ¬ (50 : Int) < (tt.size : Int) := by omega
  cases g5 : Op.bytesLess mi.toList fr.toList with
  | true =>
    go_wp2_with fail
    go_ret
    exact ⟨rfl, B1.out⟩
  | false =>
  cases g6 : Op.bytesLess tt.toList mi.toList with
  | true =>
    go_wp2_with fail
    go_ret
    exact ⟨rfl, B1.out⟩
  | false =>
  by_cases g8 : tt.toList = mi.toList
  · have g8' : (tt.toList == mi.toList) = true := by rw [g8]; simp
    go_wp2_with fail
    go_ret
    exact ⟨rfl, B1.out⟩
  have g8' : (tt.toList == mi.toList) = false := by simpa using g8
  cases g7 : mi.toList.isEmpty with
  | true =>
    go_wp2_with fail
    go_ret
    exact ⟨rfl, B1.out⟩
  | false =>
  have C1 : Hid (leS fr mi = true) := not_leS g5
  have C2 : Hid (ltS mi tt = true) := by
    cases e : ltS mi tt with
    | true => exact rfl
    | false => exact absurd (congrArg ByteArray.toList (ltS_total (a := tt) (b := mi) g6 e)) g8
  have C3 : Hid (mi ≠ ByteArray.empty) := fun e => by rw [nil_empty.2 e] at g7; cases g7
  have C4 : Hid (tt ≠ ByteArray.empty) := fun e => by
    have q : ltS mi tt = true := C2.out
    rw [e] at q
    have e2 : ByteArray.empty.toList = [] := nil_empty.2 rfl
    unfold ltS at q
    rw [e2] at q
    cases e3 : mi.toList <;> rw [e3] at q <;> cases q
  have b2 : Hid _ := allocB w1 (.cells #[.slice none 0 0, .int .i64 0, .int .i64 0] 26)
  have S2 : Hid _ := SH.new w1
  go_upto_region 8 with fail
  generalize w1.alloc (.cells #[.slice none 0 0, .int .i64 0, .int .i64 0] 26) = w2 at *
  clear g5 g6 g7 g8 g8' g2 g3 g4 g2' g3' g4'
  have l80 : len ≤ 80 := by omega
  generalize hP : w1.heap.size = P at *
  go_loopg [12, 13] len (fun g rv iv wr => ∃ (i root d f' n : Nat) (sh : List Pg) (L : List It), i ≤ len ∧ g = len - i ∧ rv = .int .u64 (root : Nat) ∧ iv = .int .i64 (i : Nat) ∧ Hid (Stt sh root L d f' i) ∧ Hid (SH wr P sh 0 n) ∧ Hid (Kp w2 wr P) ∧ n ≤ 100 * i)
  case atStart => exact ⟨0, 0, 0, 0, 0, [], [], by omega, by omega, rfl, rfl, Stt.start, S2.out, Kp.refl _ _, by omega⟩
  case round =>
    obtain ⟨i, root, d, f', n, sh, L, hi, rfl, rfl, rfl, ST, SS, KK, hn⟩ := hrel
    by_cases c : i < len
    · have c' : (i : Int) < (len : Int) := by omega
      obtain ⟨g, o, q1, q2⟩ := H1.out.at_
      have ea := q1 (by omega)
      subst ea
      have AI : Hid _ := q2 i c
      have GL : Hid (g < P) := by have := World.block_lt_of_cell? _ _ (q2 i c).c0; rw [← hP]; exact this
      have DE : Hid (∀ V, Kp wr V P → AcAt V g (o + i * 3) (fn i)) := fun V k => (AI.out.kept (b2.out.block g (by have := GL.out; omega))).kept ((k.low g GL.out (Nat.lt_of_lt_of_le (Nat.lt_of_lt_of_le (by have := GL.out; rw [hP]; exact this) b2.out.size) KK.out.size)).trans (KK.out.low g GL.out (Nat.lt_of_lt_of_le (by have := GL.out; rw [hP]; exact this) b2.out.size)))
      have OKI : Hid _ := OKA.out i c
      have rt : Hid _ := ST.out.rt
      have rl : Hid (root ≤ 1000000) := by
        by_cases z : root = 0
        · exact (by omega : root ≤ 1000000)
        · have := (ST.out.rt.some z).num; have := ST.out.size; exact (by omega : root ≤ 1000000)
      have rl' := rl.out
      have dp : Hid _ := ST.out.deep (by omega)
      clear q1 q2 AI
      obtain ⟨⟨xk, xv, xd⟩, hx⟩ : ∃ x, x = fn i := ⟨_, rfl⟩
      rw [← hx] at DE OKI
      have c0 := (DE.out wr (Kp.refl _ _)).c0
      have c1 := (DE.out wr (Kp.refl _ _)).c1
      have c2 := (DE.out wr (Kp.refl _ _)).c2
      dsimp only at c0 c1 c2
      cases xd with
      | true =>
        have K : Hid _ := dropS P sh 0 n root d xk L f' wr SS.out (by omega) (by omega) (Or.inl rfl) rt.out OKI.out.1 (by have := ST.out.len; omega) (by have := ST.out.size; omega) (by have := dp.out; omega)
        unfold ifP at K
        go_wp2_with fail
        refine Calls.mono K.out ?_
        rintro e w4 ⟨D1, D2⟩
        by_cases m : ∃ x ∈ L, x.1 = xk
        · rcases D1 m with ⟨n', rfl, s4, k4, _, l4, _⟩ | ⟨_, _, _, _, q⟩
          case inr => exact absurd q (by omega)
          obtain ⟨d', f2, st', _⟩ := ST.out.drop (by omega) m
          have X : Hid _ := And.intro st' (And.intro s4 (KK.out.trans k4))
          clear D1 D2 s4 k4 st' K c0 c1 c2
          go_wp2
          go_roundg (len - (i + 1))
          case measure => omega
          case rel => exact ⟨i + 1, _, d', f2, n', _, _, by omega, rfl, rfl, by go_num, X.out.1, X.out.2.1, X.out.2.2, by omega⟩
        · rcases D2 m with ⟨n', rfl, s4, k4, _, l4, _⟩ | ⟨_, _, _, _, q⟩
          case inr => exact absurd q (by omega)
          have X : Hid _ := And.intro ST.out.skip (And.intro s4 (KK.out.trans k4))
          clear D1 D2 s4 k4 K c0 c1 c2
          go_wp2
          go_roundg (len - (i + 1))
          case measure => omega
          case rel => exact ⟨i + 1, root, d, f', n', _, _, by omega, rfl, rfl, by go_num, X.out.1, X.out.2.1, X.out.2.2, by omega⟩
      | false =>
        have KP : Hid (∀ V, Below wr.heap.size wr V → Calls Try.prog 10 #[.iface 23 (.pointer (some ⟨P, 0, none⟩)), .int .u64 (root : Nat), .string xk, .string xv] V fun e w' => ChS V w' P sh 0 n (putT d sh root xk xv) 0 e) := fun V b => putS P sh 0 n root d xk xv L f' V (SS.out.below b) (by omega) (by omega) (Or.inl rfl) rt.out OKI.out.1 OKI.out.2 (by have := ST.out.len; omega) (by have := ST.out.size; omega) (by have := dp.out; omega)
        have DD : Hid (∀ V, Kp wr V P → V.cell? ⟨g, o + i * 3, none⟩ = some (.string xk) ∧ V.cell? ⟨g, o + i * 3 + 1, none⟩ = some (.string xv)) := fun V k => ⟨(DE.out V k).c0, (DE.out V k).c1⟩
        go_upto_region 14 with fail
        clear c0 c1 c2 DE
        refine wp_region_held_drew (S := (fun W => W.cell? ⟨g, o + i * 3, none⟩ = some (.string xk) ∧ W.cell? ⟨g, o + i * 3 + 1, none⟩ = some (.string xv))) (by kernel_rfl) ⟨(DD.out wr.drew (Kp.of_below (Below.refl wr.heap.size wr).drew P)).1, (DD.out wr.drew (Kp.of_below (Below.refl wr.heap.size wr).drew P)).2⟩ (fun hHeld => ?_)
        have dr : Hid (Below wr.heap.size wr wr.drew) := (Below.refl wr.heap.size wr).drew
        generalize wr.drew = V at *
        have D1 : Hid _ := DD.out V (Kp.of_below dr.out P)
        refine take2 rfl (i := 0) (v := (.pointer (some ⟨P, 0, none⟩))) (d := 94) rfl rfl (by kernel_rfl) (by kernel_rfl) (by kernel_rfl) (fun _ _ _ h => h) (Or.inl ⟨by rfl, ?_⟩) hHeld ?_
        · (intro W hW; (try dsimp only at hW); go_simp)
        try simp only [Act.put, List.setIfInBounds_toArray, List.set_cons_zero, List.set_cons_succ]
        refine take2 rfl (i := 1) (v := (.iface 23 (.pointer (some ⟨P, 0, none⟩)))) (d := 95) rfl rfl (by kernel_rfl) (by kernel_rfl) (by kernel_rfl) (fun _ _ _ h => h) (Or.inl ⟨by rfl, ?_⟩) hHeld ?_
        · (intro W hW; (try dsimp only at hW); go_simp)
        try simp only [Act.put, List.setIfInBounds_toArray, List.set_cons_zero, List.set_cons_succ]
        refine take2 rfl (i := 2) (v := (.int .u64 (root : Nat))) (d := 96) rfl rfl (by kernel_rfl) (by kernel_rfl) (by kernel_rfl) (fun _ _ _ h => h) (Or.inl ⟨by rfl, ?_⟩) hHeld ?_
        · (intro W hW; (try dsimp only at hW); go_simp)
        try simp only [Act.put, List.setIfInBounds_toArray, List.set_cons_zero, List.set_cons_succ]
        refine take2 rfl (i := 3) (v := (.slice (some ⟨g, o, none⟩) len cap)) (d := 97) rfl rfl (by kernel_rfl) (by kernel_rfl) (by kernel_rfl) (fun _ _ _ h => h) (Or.inl ⟨by rfl, ?_⟩) hHeld ?_
        · (intro W hW; (try dsimp only at hW); go_simp)
        try simp only [Act.put, List.setIfInBounds_toArray, List.set_cons_zero, List.set_cons_succ]
        refine take2 rfl (i := 4) (v := (.int .i64 (i : Nat))) (d := 98) rfl rfl (by kernel_rfl) (by kernel_rfl) (by kernel_rfl) (fun _ _ _ h => h) (Or.inl ⟨by rfl, ?_⟩) hHeld ?_
        · (intro W hW; (try dsimp only at hW); go_simp)
        try simp only [Act.put, List.setIfInBounds_toArray, List.set_cons_zero, List.set_cons_succ]
        refine take2 rfl (i := 5) (v := (.pointer (some ⟨g, o + i * 3, none⟩))) (d := 99) rfl rfl (by kernel_rfl) (by kernel_rfl) (by kernel_rfl) (fun _ _ _ h => h) (Or.inl ⟨by rfl, ?_⟩) hHeld ?_
        · (intro W hW; (try dsimp only at hW); go_simp)
        try simp only [Act.put, List.setIfInBounds_toArray, List.set_cons_zero, List.set_cons_succ]
        refine take2 rfl (i := 6) (v := (.pointer (some ⟨g, o + i * 3, none⟩))) (d := 100) rfl rfl (by kernel_rfl) (by kernel_rfl) (by kernel_rfl) (fun _ _ _ h => h) (Or.inl ⟨by rfl, ?_⟩) hHeld ?_
        · (intro W hW; (try dsimp only at hW); go_simp)
        try simp only [Act.put, List.setIfInBounds_toArray, List.set_cons_zero, List.set_cons_succ]
        refine take2 rfl (i := 7) (v := (.string xk)) (d := 101) rfl rfl (by kernel_rfl) (by kernel_rfl) (by kernel_rfl) (fun _ _ _ h => h) (Or.inl ⟨by rfl, ?_⟩) hHeld ?_
        · (intro W hW; (try dsimp only at hW); go_simp)
        try simp only [Act.put, List.setIfInBounds_toArray, List.set_cons_zero, List.set_cons_succ]
        refine take2 rfl (i := 8) (v := (.slice (some ⟨g, o, none⟩) len cap)) (d := 102) rfl rfl (by kernel_rfl) (by kernel_rfl) (by kernel_rfl) (fun _ _ _ h => h) (Or.inl ⟨by rfl, ?_⟩) hHeld ?_
        · (intro W hW; (try dsimp only at hW); go_simp)
        try simp only [Act.put, List.setIfInBounds_toArray, List.set_cons_zero, List.set_cons_succ]
        refine take2 rfl (i := 9) (v := (.int .i64 (i : Nat))) (d := 103) rfl rfl (by kernel_rfl) (by kernel_rfl) (by kernel_rfl) (fun _ _ _ h => h) (Or.inl ⟨by rfl, ?_⟩) hHeld ?_
        · (intro W hW; (try dsimp only at hW); go_simp)
        try simp only [Act.put, List.setIfInBounds_toArray, List.set_cons_zero, List.set_cons_succ]
        refine take2 rfl (i := 10) (v := (.pointer (some ⟨g, o + i * 3, none⟩))) (d := 104) rfl rfl (by kernel_rfl) (by kernel_rfl) (by kernel_rfl) (fun _ _ _ h => h) (Or.inl ⟨by rfl, ?_⟩) hHeld ?_
        · (intro W hW; (try dsimp only at hW); go_simp)
        try simp only [Act.put, List.setIfInBounds_toArray, List.set_cons_zero, List.set_cons_succ]
        refine take2 rfl (i := 11) (v := (.pointer (some ⟨g, o + i * 3 + 1, none⟩))) (d := 105) rfl rfl (by kernel_rfl) (by kernel_rfl) (by kernel_rfl) (fun _ _ _ h => h) (Or.inl ⟨by rfl, ?_⟩) hHeld ?_
        · (intro W hW; (try dsimp only at hW); go_simp)
        try simp only [Act.put, List.setIfInBounds_toArray, List.set_cons_zero, List.set_cons_succ]
        refine take2 rfl (i := 12) (v := (.string xv)) (d := 106) rfl rfl (by kernel_rfl) (by kernel_rfl) (by kernel_rfl) (fun _ _ _ h => h) (Or.inl ⟨by rfl, ?_⟩) hHeld ?_
        · (intro W hW; (try dsimp only at hW); go_simp)
        try simp only [Act.put, List.setIfInBounds_toArray, List.set_cons_zero, List.set_cons_succ]
        refine wpAnyH_ready (rs := [13]) (by kernel_rfl) (by simp) ?_
        refine cons2 rfl rfl (fun K9 hK => ?_)
        go_simp
        go_at_call 10
        refine Calls.mono (KP.out V dr.out) ?_
        rintro e V2 CS
        have K2 : Hid (Kp wr V2 P) := by
          rcases CS with ⟨_, _, _, k, _⟩ | ⟨_, _, _, k, _⟩
          · exact (Kp.of_below dr.out P).trans k
          · exact (Kp.of_below dr.out P).trans k
        have D2 : Hid _ := DD.out V2 K2.out
        rcases CS with ⟨n', rfl, s4, k4, _, l4, _⟩ | ⟨_, _, _, _, q⟩
        case inr => exact absurd q (by omega)
        obtain ⟨d', f2, st', _⟩ := ST.out.put (k := xk) (v := xv) (by omega) OKI.out.1 OKI.out.2
        have X : Hid _ := And.intro st' (And.intro s4 (KK.out.trans K2.out))
        clear s4 k4 st' KP
        go_wp2_with fail
        refine hK.out _ _ D2.out (fun hX => ?_)
        clear hK K9 hHeld
        have hHeld := hX
        clear hX
        try simp only [Act.put, List.setIfInBounds_toArray, List.set_cons_zero, List.set_cons_succ]
        refine take2 rfl (i := 14) (v := (.tuple #[.int .u64 ((putT d sh root xk xv).2 : Nat), .int .i64 0])) (d := 93) rfl rfl (by kernel_rfl) (by kernel_rfl) (by kernel_rfl) (fun _ _ _ h => h) (Or.inl ⟨by rfl, ?_⟩) hHeld ?_
        · (intro W hW; (try dsimp only at hW); go_simp)
        try simp only [Act.put, List.setIfInBounds_toArray, List.set_cons_zero, List.set_cons_succ]
        refine take2 rfl (i := 15) (v := (.int .u64 ((putT d sh root xk xv).2 : Nat))) (d := 108) rfl rfl (by kernel_rfl) (by kernel_rfl) (by kernel_rfl) (fun _ _ _ h => h) (Or.inl ⟨by rfl, ?_⟩) hHeld ?_
        · (intro W hW; (try dsimp only at hW); go_simp)
        try simp only [Act.put, List.setIfInBounds_toArray, List.set_cons_zero, List.set_cons_succ]
        refine take2 rfl (i := 16) (v := (.int .i64 0)) (d := 109) rfl rfl (by kernel_rfl) (by kernel_rfl) (by kernel_rfl) (fun _ _ _ h => h) (Or.inl ⟨by rfl, ?_⟩) hHeld ?_
        · (intro W hW; (try dsimp only at hW); go_simp)
        try simp only [Act.put, List.setIfInBounds_toArray, List.set_cons_zero, List.set_cons_succ]
        refine take2 rfl (i := 17) (v := (.int .u64 ((putT d sh root xk xv).2 : Nat))) (d := 12) rfl rfl (by kernel_rfl) (by kernel_rfl) (by kernel_rfl) (fun _ _ _ h => h) (Or.inl ⟨by rfl, ?_⟩) hHeld ?_
        · (intro W hW; (try dsimp only at hW); go_simp)
        try simp only [Act.put, List.setIfInBounds_toArray, List.set_cons_zero, List.set_cons_succ]
        refine wpAnyH_done (by kernel_rfl) ?_ _
        clear hHeld D1 D2 DD
        go_wp2
        go_roundg (len - (i + 1))
        case measure => omega
        case rel => exact ⟨i + 1, _, d', f2, n', _, _, by omega, rfl, rfl, by go_num, X.out.1, X.out.2.1, X.out.2.2, by omega⟩
    · obtain rfl : i = len := by omega
      have rl : Hid (root ≤ 1000000) := by
        by_cases z : root = 0
        · exact (by omega : root ≤ 1000000)
        · have := (ST.out.rt.some z).num; have := ST.out.size; exact (by omega : root ≤ 1000000)
      have rl' := rl.out
      have LL : Hid (L.length ≤ 80) := (by have := ST.out.len; omega : L.length ≤ 80)
      have dp : Hid _ := ST.out.deep (by omega)
      have shl : Hid (sh.length ≤ 4800) := (by have := ST.out.size; omega : sh.length ≤ 4800)
      have RNG : Hid (∀ (w : World) (n : Nat) (x y : ByteArray) (m : Int), SH w P sh 0 n → n ≤ 100000 → Calls Try.prog 12 #[.iface 23 (.pointer (some ⟨P, 0, none⟩)), .int .u64 (root : Nat), .string x, .string y, .int .i64 m] w fun e w' => RaS w w' P sh n ((rng L x y).take m.toNat) e) := fun w n x y m s hn => rangeS P sh n root d x y m L f' w s (by omega) ST.out.rt (by have := LL.out; omega) (by have := shl.out; omega) (by have := dp.out; omega)
      have PL : Hid (P < wr.heap.size) := SS.out.lt
      go_wp2_with fail
      refine Calls.mono (RNG.out wr n fr tt 1000 SS.out (by omega)) ?_
      rintro e wa ⟨va, na, rfl, oa, sa, ka, _, la⟩
      have OA : Hid (wa.ownsRow wr.heap.size 61 2 va (rng L fr tt).length (cI (rng L fr tt))) := by rw [rng_take (by have := LL.out; omega : L.length ≤ (1000 : Int).toNat)] at oa; exact oa
      have A1 : Hid _ := And.intro sa (And.intro ka (by omega : na ≤ 11000))
      clear oa sa ka la
      go_wp2_with fail
      refine Calls.mono (RNG.out wa na fr mi 1000 A1.out.1 (by have := A1.out.2.2; omega)) ?_
      rintro e wb ⟨vb, nb, rfl, ob, sb, kb, _, lb⟩
      have OB : Hid (wb.ownsRow wa.heap.size 61 2 vb (rng L fr mi).length (cI (rng L fr mi))) := by rw [rng_take (by have := LL.out; omega : L.length ≤ (1000 : Int).toNat)] at ob; exact ob
      have A2 : Hid _ := And.intro sb (And.intro kb (by have := A1.out.2.2; omega : nb ≤ 14000))
      clear ob sb kb lb
      go_wp2_with fail
      refine Calls.mono (RNG.out wb nb mi tt 1000 A2.out.1 (by have := A2.out.2.2; omega)) ?_
      rintro e wc ⟨vc, nc, rfl, oc, sc, kc, _, lc⟩
      have OC : Hid (wc.ownsRow wb.heap.size 61 2 vc (rng L mi tt).length (cI (rng L mi tt))) := by rw [rng_take (by have := LL.out; omega : L.length ≤ (1000 : Int).toNat)] at oc; exact oc
      have A3 : Hid _ := And.intro sc (And.intro kc (by have := A2.out.2.2; omega : nc ≤ 17000))
      clear oc sc kc lc
      go_wp2_with fail
      refine Calls.mono (RNG.out wc nc fr tt most A3.out.1 (by have := A3.out.2.2; omega)) ?_
      rintro e wd ⟨vd, nd, rfl, od, sd, kd, _, ld⟩
      have OD : Hid _ := od
      have P1 : Hid (P < wa.heap.size ∧ P < wb.heap.size ∧ P < wc.heap.size) := ⟨A1.out.1.lt, A2.out.1.lt, A3.out.1.lt⟩
      have KD : Hid _ := kd
      have OC2 : Hid _ := ownsI_kp OC.out kd P1.out.2.1
      have OB2 : Hid _ := ownsI_kp OB.out (A3.out.2.1.trans kd) P1.out.1
      have OA2 : Hid _ := ownsI_kp OA.out ((A2.out.2.1.trans A3.out.2.1).trans kd) PL.out
      have SZ : Hid (wr.heap.size ≤ wa.heap.size ∧ wa.heap.size ≤ wb.heap.size ∧ wb.heap.size ≤ wc.heap.size ∧ wc.heap.size ≤ wd.heap.size) := ⟨A1.out.2.1.size, A2.out.2.1.size, A3.out.2.1.size, kd.size⟩
      have FB : Hid (Below W.heap.size W wd) := kp_end hP B1.out b2.out ((((KK.out.trans A1.out.2.1).trans A2.out.2.1).trans A3.out.2.1).trans kd)
      have CUT : Hid (rng L fr mi ++ rng L mi tt = rng L fr tt) := rng_cut ST.out.rt.srt C1.out C2.out C3.out C4.out
      have AL : Hid ((rng L fr tt).length ≤ 80) := Nat.le_trans (rng_len _ _ _) LL.out
      have OA0 : Hid (∀ g, va.ownBlock = some g → g < wa.heap.size) := fun g q => (OA.out.lt g q).2
      have OB0 : Hid (∀ g, vb.ownBlock = some g → g < wb.heap.size) := fun g q => (OB.out.lt g q).2
      have DLn : Hid (((rng L fr tt).take most.toNat).length = min most.toNat (rng L fr tt).length) := List.length_take
      have DA : Hid (∀ j x, ((rng L fr tt).take most.toNat)[j]? = some x → (rng L fr tt)[j]? = some x) := fun j x q => by
        have l := lt_of_some q
        rw [List.length_take] at l
        rwa [List.getElem?_take, if_pos (by omega)] at q
      have CL : Hid ((rng L fr mi).length + (rng L mi tt).length = (rng L fr tt).length) := by
        have q := congrArg List.length CUT.out
        rw [List.length_append] at q
        exact q
      clear od sd kd ld RNG OA OB OC A1 A2 A3 SS ST KK
      generalize (rng L fr tt).take most.toNat = D at *
      generalize rng L fr tt = A at *
      generalize rng L fr mi = Bm at *
      generalize rng L mi tt = Cm at *
      obtain ⟨xa, ya, ba, IA'⟩ := IR2.of OA2.out
      obtain ⟨xb, yb, bb, IB'⟩ := IR2.of OB2.out
      obtain ⟨xc, yc, bc, IC'⟩ := IR2.of OC2.out
      obtain ⟨xd, yd, bd, ID'⟩ := IR2.of OD.out
      have ea := IA'.v
      have eb := IB'.v
      have ec := IC'.v
      have ed := ID'.v
      subst ea eb ec ed
      clear IA' IB' IC' ID'
      have al := AL.out
      have cl := CL.out
      have z1 : ((Bm.length : Int) + (Cm.length : Int)) = (A.length : Int) := by omega
      have z2 : IntKind.i64.wrap (A.length : Int) = (A.length : Int) := by rw [IntKind.wrap_i64]; omega
      go_upto_region 22 with (at_builtin; refine wpList_append_items rfl (.tmp 171) (.tmp 172) rfl wa.heap.size _ Bm rfl OB2.out wb.heap.size _ Cm rfl OC2.out (by omega) (by have := SZ.out; omega) ?_; rintro v5 w5 o5 gr5)
      have OB2t : wd.ownsRow wa.heap.size 61 2 (.slice xb Bm.length yb) Bm.length (cI Bm) := OB2.out
      have ODt : wd.ownsRow wc.heap.size 61 2 (.slice xd D.length yd) D.length (cI D) := OD.out
      have O5 : Hid (w5.ownsRow wa.heap.size 61 2 v5 A.length (cI A)) := by rw [CUT.out] at o5; exact o5
      have OA5 : Hid (w5.ownsRow wr.heap.size 61 2 (.slice xa A.length ya) A.length (cI A)) := ownsI_grown OA2.out gr5 (fun g q e => by
        have q2 := OB2t.lt g e
        have q3 := OA0.out g q
        omega)
      have OD5 : Hid (w5.ownsRow wc.heap.size 61 2 (.slice xd D.length yd) D.length (cI D)) := ownsI_grown OD.out gr5 (fun g q e => by
        have q2 := OB0.out g e
        have q3 := ODt.lt g q
        have := SZ.out
        omega)
      have F5 : Hid (Below W.heap.size W w5) := ⟨gr5.os.trans FB.out.os, gr5.tape.trans FB.out.tape, gr5.output.trans FB.out.output, Nat.le_trans FB.out.size gr5.size, fun k hk => (gr5.block k (Nat.lt_of_lt_of_le hk FB.out.size) (fun e => by
        have q2 := OB2t.lt k e.symm
        have := SZ.out
        have := PL.out
        have := B1.out.size
        omega)).trans (FB.out.block k hk)⟩
      clear o5 gr5 OB2t ODt OA2 OB2 OC2 OD OA0 OB0 FB z1 z2 KD
      obtain ⟨xa', ya', ba, IA⟩ := IR2.of OA5.out
      obtain ⟨xb', yb', bb, IB⟩ := IR2.of O5.out
      obtain ⟨xd', yd', bd, ID⟩ := IR2.of OD5.out
      have ea := IA.v
      have eb := IB.v
      have ed := ID.v
      subst eb
      injection ea with ea1 ea2 ea3
      injection ed with ed1 ed2 ed3
      subst ea1 ea3 ed1 ed3
      clear ea2 ed2
      go_upto_region 23 with fail
      go_loopg [24] A.length (fun g iv wq => ∃ j : Nat, j ≤ A.length ∧ g = A.length - j ∧ iv = .int .i64 (j : Nat) ∧ Hid (Below w5.heap.size w5 wq))
      case atStart => exact ⟨0, by omega, rfl, rfl, Below.refl _ _⟩
      case round =>
        obtain ⟨j, hj, rfl, rfl, BQ⟩ := hrel
        by_cases cj : j < A.length
        · have cj' : (j : Int) < (A.length : Int) := by omega
          obtain ⟨x, hx⟩ : ∃ x, A[j]? = some x := ⟨_, List.getElem?_eq_getElem cj⟩
          have kq : ∀ (b i : Nat) (u : Value), w5.cell? ⟨b, i, none⟩ = some u → wr.cell? ⟨b, i, none⟩ = some u := fun b i u q => (World.cell?_of_block (w := w5) (a := ⟨b, i, none⟩) (BQ.out.block b (World.block_lt_of_cell? _ _ q))).trans q
          have pa := IA.a (by omega)
          have pb := IB.a (by omega)
          subst pa pb
          have a0 := kq _ _ _ (IA.c0 j x hx)
          have a1 := kq _ _ _ (IA.c1 j x hx)
          have b0 := kq _ _ _ (IB.c0 j x hx)
          have b1 := kq _ _ _ (IB.c1 j x hx)
          by_cases cd : j < D.length
          · have cd' : (j : Int) < (D.length : Int) := by omega
            have pd := ID.a (by omega)
            subst pd
            obtain ⟨y, hy⟩ : ∃ y, D[j]? = some y := ⟨_, List.getElem?_eq_getElem cd⟩
            have exy : x = y := by have q := DA.out j y hy; rw [hx] at q; exact Option.some.inj q
            subst exy
            have d0 := kq _ _ _ (ID.c0 j x hy)
            have d1 := kq _ _ _ (ID.c1 j x hy)
            clear kq hx hy
            obtain ⟨x1, x2⟩ := x
            dsimp only at a0 a1 b0 b1 d0 d1
            go_upto_region 25 with fail
            go_quiet (fail)
            have BQ2 : Hid _ := nextB BQ.out (drewB wr nq)
            generalize wr.drewN nq = wr2 at *
            clear a0 a1 b0 b1 d0 d1
            go_wp2
            go_roundg (A.length - (j + 1))
            case measure => omega
            case rel => exact ⟨j + 1, by omega, rfl, by go_num, BQ2.out⟩
          · have cd' : ¬ (j : Int) < (D.length : Int) := by omega
            clear kq hx
            obtain ⟨x1, x2⟩ := x
            dsimp only at a0 a1 b0 b1
            go_upto_region 25 with fail
            go_quiet (fail)
            have BQ2 : Hid _ := nextB BQ.out (drewB wr nq)
            generalize wr.drewN nq = wr2 at *
            clear a0 a1 b0 b1
            go_wp2
            go_roundg (A.length - (j + 1))
            case measure => omega
            case rel => exact ⟨j + 1, by omega, rfl, by go_num, BQ2.out⟩
        · obtain rfl : j = A.length := by omega
          have FIN : Hid _ := nextB F5.out BQ.out
          by_cases m1 : most < (A.length : Int)
          · by_cases m2 : most < 0
            · have e1 : (D.length : Int) = 0 := by have := DLn.out; omega
              go_wp2
              go_ret
              refine ⟨?_, FIN.out⟩
              first | rfl | (simp; done) | (simp [e1]; done) | trace_state
            · have e1 : (D.length : Int) = most := by have := DLn.out; omega
              go_wp2
              go_ret
              refine ⟨?_, FIN.out⟩
              first | rfl | (simp; done) | (simp [e1]; done) | trace_state
          · have e1 : (D.length : Int) = (A.length : Int) := by have := DLn.out; omega
            have e2 : ¬ (A.length : Int) < 0 := by omega
            go_wp2
            go_ret
            refine ⟨?_, FIN.out⟩
            first | rfl | (simp; done) | (simp [e1]; done) | trace_state


set_option maxRecDepth 100000 in
theorem lifted (os : Os) (started : os.Started) (H : Type) (enc : TypeId × Value → H) :
    ReturnsInHanded {} Try.checked os 8 .any (Rows.treeRangesSpec.pre6 enc Try.prog Try.f8 Rows.treeRangesRow.domain false) (Rows.treeRangesSpec.post enc Try.prog Try.f8 false true false false) := by
  refine returnsInHanded_of_change_sized (C := Try.checked) own started (by kernel_rfl) Try.func8
    (ChangeSpec.witness6 (enc := enc) (C := Try.checked) false ⟨#[], #[.slice none 0 0, .string ByteArray.empty, .string ByteArray.empty, .string ByteArray.empty, .int .i64 0], []⟩ 8 (by kernel_rfl) (by kernel_rfl) (by kernel_rfl) (by kernel_rfl)) ?_
  intro W base args ds gs before hval0 hW hcnd hwt _
  have hval : ∀ (j : Nat) t v, Try.f8.params[j]? = some t → args[j]? = some v → Value.okWide Try.prog W .any base t v := hval0
  have hwz : ∀ (j : Nat) t d, (Try.f8.params.toList ++ Rows.treeRangesSpec.plain.varTypes Try.prog)[j]? = some t → (ds ++ gs)[j]? = some d → ∀ n ∈ d.weights Try.prog t, n ≤ reachBytes := fun j t d ht hd n hn => by
    simpa using List.all_eq_true.1 hwt n (DataW.weights_mem_each ht hd n hn)
  have hW' := hW
  obtain ⟨p, q, hA0, hV, rfl, hfz, hnd⟩ := hW
  have hA : DataW.TrodAll enc Try.prog W 0 (fun _ => true) true Try.f8.params.toList args.toList ds p := hA0
  rw [Try.params8] at hA hval hwz
  obtain ⟨v0, vs0, d0, ds0, p0, q0, hargs, rfl, rfl, h0, r0⟩ := trodAll_cons hA
  obtain ⟨v1, vs1, d1, ds1, p1, q1, rfl, rfl, rfl, h1, r1⟩ := trodAll_cons r0
  obtain ⟨v2, vs2, d2, ds2, p2, q2, rfl, rfl, rfl, h2, r2⟩ := trodAll_cons r1
  obtain ⟨v3, vs3, d3, ds3, p3, q3, rfl, rfl, rfl, h3, r3⟩ := trodAll_cons r2
  obtain ⟨v4, vs4, d4, ds4, p4, q4, rfl, rfl, rfl, h4, r4⟩ := trodAll_cons r3
  obtain ⟨rfl, rfl, rfl⟩ := trodAll_nil r4
  obtain rfl : args = #[v0, v1, v2, v3, v4] := by cases args; simp_all
  obtain ⟨rfl, rfl⟩ := trodVars_none hV
  have k0 := h0
  have lt0 : ∀ x ∈ p0, x.block < W.heap.size := by obtain ⟨m, hm⟩ := k0; exact DataW.trod_lt m _ _ _ hm
  obtain ⟨a0, len0, cap0, rfl⟩ := okWide_slice Try.underlying36 (hval 0 36 v0 rfl rfl)
  obtain ⟨f0, w0⟩ : ∃ f, Acts W a0 len0 cap0 f := by
    obtain ⟨fuel, hf⟩ := h0
    exact acts_of hf
  obtain ⟨s1, rfl, rfl, rfl, w1⟩ := open_string Try.underlying9 (hval 1 9 v1 rfl rfl) h1
  obtain ⟨s2, rfl, rfl, rfl, w2⟩ := open_string Try.underlying9 (hval 2 9 v2 rfl rfl) h2
  obtain ⟨s3, rfl, rfl, rfl, w3⟩ := open_string Try.underlying9 (hval 3 9 v3 rfl rfl) h3
  obtain ⟨a4, rfl, rfl, rfl, w4⟩ := open_int Try.underlying3 (hval 4 3 v4 rfl rfl) h4
  clear hA0 hval0
  try simp only [List.append_nil, List.nil_append] at hW'
  refine (walk W a0 len0 cap0 f0 w0 s1 s2 s3 a4).mono fun e W' ⟨he, bel⟩ => ?_
  subst he
  exact ⟨_, rfl, _, _, _, [], _, [], hW', trodAll_mk1 (shut_bool Try.underlying4 _), (trodAll_cons_mk (Below.trod laidOut (by kernel_rfl) (of_decide_eq_true (by kernel_rfl)) k0 bel lt0) (trodAll_cons_mk (shut_string Try.underlying9 w1) (trodAll_cons_mk (shut_string Try.underlying9 w2) (trodAll_cons_mk (shut_string Try.underlying9 w3) (trodAll_cons_mk (shut_int Try.underlying3 w4) trodAll_mk0))))), rfl, bel.frame _, fun h => by cases h⟩

theorem over : Rows.treeRangesRow.holds Try.pinned (OpenSpec.ofChange Rows.treeRangesSpec) :=
  OpenClaim.holds_of_wide 8 Try.f8 rfl rfl rfl rfl rfl rfl rfl ⟨rfl, rfl, rfl, rfl, rfl⟩ rfl rfl rfl rfl rfl (by kernel_rfl) Try.func8 (by kernel_rfl)
    (of_decide_eq_true (by kernel_rfl)) (by unfold Func.isWrapper; first | (rw [if_pos (by decide +kernel)]; kernel_rfl) | (rw [if_neg (by decide +kernel)]; exact ⟨rfl, rfl⟩))
    (fun os started H enc _ => lifted os started H enc)

end Go.Proofs.Ythdjghmipepppaa.treeRanges
namespace Go.Proofs.Ythdjghmipepppaa

theorem TreeRanges_holds : Rows.TreeRangesSaid := treeRanges.over

end Go.Proofs.Ythdjghmipepppaa
