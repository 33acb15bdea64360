/- Proved: the law TreeIll of package publicanlaw7 returns true at every start, whatever memory it starts in, on every schedule; no condition. -/
import Derived.Test.YthdjghmipepppaaNf
import Derived.Lib.SmallJoins
import Derived.SizedLaws
namespace Go.Proofs.Ythdjghmipepppaa.treeIll
open Go.ChangeShapes Go.WideShapes Go.ChangeAt Go.RowKit Go.Deep Go.Joins Go.Maps Go.ChangeMaps
set_option linter.unusedVariables false
set_option linter.unusedSimpArgs false

attribute [local go_sem] Oper.semAt_some

set_option maxRecDepth 100000 in
set_option maxHeartbeats 32000000 in
theorem walk (W : World) (a0 : Option Addr) (len cap : Nat) (fn : Nat → Ac) (h : Acts W a0 len cap fn) (xk xv : ByteArray) (xd : Bool) (ill : Int) :
    Calls Try.prog 7 #[.slice a0 len cap, .agg #[.string xk, .string xv, .bool xd], .int .i64 ill] W fun e w' => e = .returned (.bool true) ∧ Below W.heap.size W w' := by
  have H : Hid _ := h
  have mx := h.max
  have mf := h.fits
  unfold maxLen at mx
  clear h
  have b00 : Hid _ := allocB W (.cells #[.string xk, .string xv, .bool xd] 46)
  have A00 : Hid _ := acAt_new W xk xv xd 46
  have H00 : Hid _ := H.out.below b00.out
  clear H
  go_enter Try.func7, Try.ntmps7
  go_upto_region 1 with fail
  generalize W.alloc (.cells #[.string xk, .string xv, .bool xd] 46) = W0 at *
  have XL : Hid (W.heap.size < W0.heap.size) := World.block_lt_of_cell? _ _ A00.out.c0
  generalize hX : W.heap.size = X at *
  go_wp2_with fail
  refine Calls.mono (awake_any W0) ?_
  rintro e w0 ⟨rfl, b0'⟩
  have B0 : Hid (Below X W w0) := by have q := nextB (by rw [hX]; exact b00.out : Below W.heap.size W W0) b0'; rw [hX] at q; exact q
  have H0 : Hid _ := H00.out.below b0'
  have A0 : Hid _ := A00.out.kept (b0'.block X XL.out)
  have X0 : Hid (X < w0.heap.size) := Nat.lt_of_lt_of_le XL.out b0'.size
  clear b0' H00 A00 b00 XL
  go_wp2_with fail
  refine Calls.mono (small_any w0 a0 len cap fn H0.out) ?_
  rintro e w1 ⟨b, rfl, OK', b1'⟩
  have OK : Hid _ := OK'
  have B1 : Hid (Below X W w1) := by have q := nextB (by rw [hX]; exact B0.out : Below W.heap.size W w0) b1'; rw [hX] at q; exact q
  have H1 : Hid _ := H0.out.below b1'
  have A1 : Hid _ := A0.out.kept (b1'.block X X0.out)
  have X1 : Hid (X < w1.heap.size) := Nat.lt_of_lt_of_le X0.out b1'.size
  clear b1' OK' H0 A0 X0 B0
  cases b with
  | false =>
    go_wp2_with fail
    go_ret
    exact ⟨rfl, by rw [hX]; exact B1.out⟩
  | true =>
  have LN : Hid _ := (OK.out rfl).1
  have OKA : Hid _ := (OK.out rfl).2
  have ln := LN.out
  clear OK
  by_cases g1 : 60 < len
  · have g1' : (60 : Int) < (len : Int) := by omega
    go_wp2_with fail
    go_ret
    exact ⟨rfl, by rw [hX]; exact B1.out⟩
  have g1' : ¬ (60 : Int) < (len : Int) := by omega
  have a0 := A1.out.c0
  have a1 : w1.cell? ⟨X, 1, none⟩ = some (.string xv) := A1.out.c1
  have a2 : w1.cell? ⟨X, 2, none⟩ = some (.bool xd) := A1.out.c2
  dsimp only at a0
  have b20 : Hid _ := allocB w1 (.cells #[.string xk, .string xv, .bool xd] 46)
  have AN : Hid _ := acAt_new w1 xk xv xd 46
  go_wp2_with fail
  refine Calls.mono (small_any _ _ 1 1 (fun _ => ⟨xk, xv, xd⟩) (acts_one AN.out)) ?_
  rintro e w2 ⟨b, rfl, OK', b2'⟩
  have OK : Hid _ := OK'
  have B2 : Hid (Below X W w2) := by have q := nextB (nextB (by rw [hX]; exact B1.out : Below W.heap.size W w1) b20.out) b2'; rw [hX] at q; exact q
  have H2 : Hid _ := (H1.out.below b20.out).below b2'
  have A2 : Hid _ := (A1.out.kept (b20.out.block X X1.out)).kept (b2'.block X (Nat.lt_of_lt_of_le X1.out b20.out.size))
  have X2 : Hid (X < w2.heap.size) := Nat.lt_of_lt_of_le X1.out (Nat.le_trans b20.out.size b2'.size)
  clear b2' OK' H1 A1 X1 B1 AN b20 a0 a1 a2
  cases b with
  | false =>
    go_wp2_with fail
    go_ret
    exact ⟨rfl, by rw [hX]; exact B2.out⟩
  | true =>
  have OKX : Hid (okAc ⟨xk, xv, xd⟩) := (OK.out rfl).2 0 (by omega)
  clear OK
  by_cases g2 : ill < 1
  · skip
    go_wp2_with fail
    go_ret
    exact ⟨rfl, by rw [hX]; exact B2.out⟩
  by_cases g3 : 20 < ill
  · skip
    go_wp2_with fail
    go_ret
    exact ⟨rfl, by rw [hX]; exact B2.out⟩
  obtain ⟨il, rfl⟩ : ∃ il : Nat, ill = il := ⟨ill.toNat, by omega⟩
  have b3 : Hid _ := allocB w2 (.cells #[.slice none 0 0, .int .i64 0, .int .i64 0] 26)
  have S3 : Hid _ := SH.new w2
  go_upto_region 8 with fail
  generalize w2.alloc (.cells #[.slice none 0 0, .int .i64 0, .int .i64 0] 26) = w3 at *
  have l60 : len ≤ 60 := by omega
  generalize hP : w2.heap.size = P at *
  go_loopg [8, 9] len (fun g rv iv wr => ∃ (i root d f' n : Nat) (sh : List Pg) (L : List It), i ≤ len ∧ g = len - i ∧ rv = .int .u64 (root : Nat) ∧ iv = .int .i64 (i : Nat) ∧ Hid (Stt sh root L d f' i) ∧ Hid (SH wr P sh 0 n) ∧ Hid (Kp w3 wr P) ∧ n ≤ 100 * i)
  case atStart => exact ⟨0, 0, 0, 0, 0, [], [], by omega, by omega, rfl, rfl, Stt.start, S3.out, Kp.refl _ _, by omega⟩
  case round =>
    obtain ⟨i, root, d, f', n, sh, L, hi, rfl, rfl, rfl, ST, SS, KK, hn⟩ := hrel
    have rl : Hid (root ≤ 1000000) := by
      by_cases z : root = 0
      · exact (by omega : root ≤ 1000000)
      · have := (ST.out.rt.some z).num; have := ST.out.size; exact (by omega : root ≤ 1000000)
    have rl' := rl.out
    have dp : Hid _ := ST.out.deep (by omega)
    by_cases c : i < len
    · have c' : (i : Int) < (len : Int) := by omega
      obtain ⟨g, o, q1, q2⟩ := H2.out.at_
      have ea := q1 (by omega)
      subst ea
      have AI : Hid _ := q2 i c
      have GL : Hid (g < P) := by have := World.block_lt_of_cell? _ _ (q2 i c).c0; rw [← hP]; exact this
      have DE : Hid (∀ V, Kp wr V P → AcAt V g (o + i * 3) (fn i)) := fun V k => (AI.out.kept (b3.out.block g (by have := GL.out; omega))).kept ((k.low g GL.out (Nat.lt_of_lt_of_le (Nat.lt_of_lt_of_le (by have := GL.out; rw [hP]; exact this) b3.out.size) KK.out.size)).trans (KK.out.low g GL.out (Nat.lt_of_lt_of_le (by have := GL.out; rw [hP]; exact this) b3.out.size)))
      have OKI : Hid _ := OKA.out i c
      have rt : Hid _ := ST.out.rt
      clear q1 q2 AI
      obtain ⟨⟨yk, yv, yd⟩, hx⟩ : ∃ x, x = fn i := ⟨_, rfl⟩
      rw [← hx] at DE OKI
      have c0 := (DE.out wr (Kp.refl _ _)).c0
      have c1 := (DE.out wr (Kp.refl _ _)).c1
      have c2 := (DE.out wr (Kp.refl _ _)).c2
      dsimp only at c0 c1 c2
      cases yd with
      | true =>
        have X : Hid _ := ST.out.skip
        clear c0 c1
        go_wp2
        go_roundg (len - (i + 1))
        case measure => omega
        case rel => exact ⟨i + 1, root, d, f', n, _, _, by omega, rfl, rfl, by go_num, X.out, SS.out, KK.out, by omega⟩
      | false =>
        have KP : Hid (∀ V, Below wr.heap.size wr V → Calls Try.prog 10 #[.iface 23 (.pointer (some ⟨P, 0, none⟩)), .int .u64 (root : Nat), .string yk, .string yv] V fun e w' => ChS V w' P sh 0 n (putT d sh root yk yv) 0 e) := fun V b => putS P sh 0 n root d yk yv L f' V (SS.out.below b) (by omega) (by omega) (Or.inl rfl) rt.out OKI.out.1 OKI.out.2 (by have := ST.out.len; omega) (by have := ST.out.size; omega) (by have := dp.out; omega)
        have DD : Hid (∀ V, Kp wr V P → V.cell? ⟨g, o + i * 3, none⟩ = some (.string yk) ∧ V.cell? ⟨g, o + i * 3 + 1, none⟩ = some (.string yv)) := fun V k => ⟨(DE.out V k).c0, (DE.out V k).c1⟩
        go_upto_region 11 with fail
        clear c0 c1 c2 DE
        refine wp_region_held_drew (S := (fun W => W.cell? ⟨g, o + i * 3, none⟩ = some (.string yk) ∧ W.cell? ⟨g, o + i * 3 + 1, none⟩ = some (.string yv))) (by kernel_rfl) ⟨(DD.out wr.drew (Kp.of_below (Below.refl wr.heap.size wr).drew P)).1, (DD.out wr.drew (Kp.of_below (Below.refl wr.heap.size wr).drew P)).2⟩ (fun hHeld => ?_)
        have dr : Hid (Below wr.heap.size wr wr.drew) := (Below.refl wr.heap.size wr).drew
        generalize wr.drew = V at *
        have D1 : Hid _ := DD.out V (Kp.of_below dr.out P)
        refine take2 rfl (i := 0) (v := (.pointer (some ⟨P, 0, none⟩))) (d := 56) rfl rfl (by kernel_rfl) (by kernel_rfl) (by kernel_rfl) (fun _ _ _ h => h) (Or.inl ⟨by rfl, ?_⟩) hHeld ?_
        · (intro W hW; (try dsimp only at hW); go_simp)
        try simp only [Act.put, List.setIfInBounds_toArray, List.set_cons_zero, List.set_cons_succ]
        refine take2 rfl (i := 1) (v := (.iface 23 (.pointer (some ⟨P, 0, none⟩)))) (d := 57) rfl rfl (by kernel_rfl) (by kernel_rfl) (by kernel_rfl) (fun _ _ _ h => h) (Or.inl ⟨by rfl, ?_⟩) hHeld ?_
        · (intro W hW; (try dsimp only at hW); go_simp)
        try simp only [Act.put, List.setIfInBounds_toArray, List.set_cons_zero, List.set_cons_succ]
        refine take2 rfl (i := 2) (v := (.int .u64 (root : Nat))) (d := 58) rfl rfl (by kernel_rfl) (by kernel_rfl) (by kernel_rfl) (fun _ _ _ h => h) (Or.inl ⟨by rfl, ?_⟩) hHeld ?_
        · (intro W hW; (try dsimp only at hW); go_simp)
        try simp only [Act.put, List.setIfInBounds_toArray, List.set_cons_zero, List.set_cons_succ]
        refine take2 rfl (i := 3) (v := (.slice (some ⟨g, o, none⟩) len cap)) (d := 59) rfl rfl (by kernel_rfl) (by kernel_rfl) (by kernel_rfl) (fun _ _ _ h => h) (Or.inl ⟨by rfl, ?_⟩) hHeld ?_
        · (intro W hW; (try dsimp only at hW); go_simp)
        try simp only [Act.put, List.setIfInBounds_toArray, List.set_cons_zero, List.set_cons_succ]
        refine take2 rfl (i := 4) (v := (.int .i64 (i : Nat))) (d := 60) rfl rfl (by kernel_rfl) (by kernel_rfl) (by kernel_rfl) (fun _ _ _ h => h) (Or.inl ⟨by rfl, ?_⟩) hHeld ?_
        · (intro W hW; (try dsimp only at hW); go_simp)
        try simp only [Act.put, List.setIfInBounds_toArray, List.set_cons_zero, List.set_cons_succ]
        refine take2 rfl (i := 5) (v := (.pointer (some ⟨g, o + i * 3, none⟩))) (d := 61) rfl rfl (by kernel_rfl) (by kernel_rfl) (by kernel_rfl) (fun _ _ _ h => h) (Or.inl ⟨by rfl, ?_⟩) hHeld ?_
        · (intro W hW; (try dsimp only at hW); go_simp)
        try simp only [Act.put, List.setIfInBounds_toArray, List.set_cons_zero, List.set_cons_succ]
        refine take2 rfl (i := 6) (v := (.pointer (some ⟨g, o + i * 3, none⟩))) (d := 62) rfl rfl (by kernel_rfl) (by kernel_rfl) (by kernel_rfl) (fun _ _ _ h => h) (Or.inl ⟨by rfl, ?_⟩) hHeld ?_
        · (intro W hW; (try dsimp only at hW); go_simp)
        try simp only [Act.put, List.setIfInBounds_toArray, List.set_cons_zero, List.set_cons_succ]
        refine take2 rfl (i := 7) (v := (.string yk)) (d := 63) rfl rfl (by kernel_rfl) (by kernel_rfl) (by kernel_rfl) (fun _ _ _ h => h) (Or.inl ⟨by rfl, ?_⟩) hHeld ?_
        · (intro W hW; (try dsimp only at hW); go_simp)
        try simp only [Act.put, List.setIfInBounds_toArray, List.set_cons_zero, List.set_cons_succ]
        refine take2 rfl (i := 8) (v := (.slice (some ⟨g, o, none⟩) len cap)) (d := 64) rfl rfl (by kernel_rfl) (by kernel_rfl) (by kernel_rfl) (fun _ _ _ h => h) (Or.inl ⟨by rfl, ?_⟩) hHeld ?_
        · (intro W hW; (try dsimp only at hW); go_simp)
        try simp only [Act.put, List.setIfInBounds_toArray, List.set_cons_zero, List.set_cons_succ]
        refine take2 rfl (i := 9) (v := (.int .i64 (i : Nat))) (d := 65) rfl rfl (by kernel_rfl) (by kernel_rfl) (by kernel_rfl) (fun _ _ _ h => h) (Or.inl ⟨by rfl, ?_⟩) hHeld ?_
        · (intro W hW; (try dsimp only at hW); go_simp)
        try simp only [Act.put, List.setIfInBounds_toArray, List.set_cons_zero, List.set_cons_succ]
        refine take2 rfl (i := 10) (v := (.pointer (some ⟨g, o + i * 3, none⟩))) (d := 66) rfl rfl (by kernel_rfl) (by kernel_rfl) (by kernel_rfl) (fun _ _ _ h => h) (Or.inl ⟨by rfl, ?_⟩) hHeld ?_
        · (intro W hW; (try dsimp only at hW); go_simp)
        try simp only [Act.put, List.setIfInBounds_toArray, List.set_cons_zero, List.set_cons_succ]
        refine take2 rfl (i := 11) (v := (.pointer (some ⟨g, o + i * 3 + 1, none⟩))) (d := 67) rfl rfl (by kernel_rfl) (by kernel_rfl) (by kernel_rfl) (fun _ _ _ h => h) (Or.inl ⟨by rfl, ?_⟩) hHeld ?_
        · (intro W hW; (try dsimp only at hW); go_simp)
        try simp only [Act.put, List.setIfInBounds_toArray, List.set_cons_zero, List.set_cons_succ]
        refine take2 rfl (i := 12) (v := (.string yv)) (d := 68) rfl rfl (by kernel_rfl) (by kernel_rfl) (by kernel_rfl) (fun _ _ _ h => h) (Or.inl ⟨by rfl, ?_⟩) hHeld ?_
        · (intro W hW; (try dsimp only at hW); go_simp)
        try simp only [Act.put, List.setIfInBounds_toArray, List.set_cons_zero, List.set_cons_succ]
        refine wpAnyH_ready (rs := [13]) (by kernel_rfl) (by simp) ?_
        refine cons2 rfl rfl (fun K9 hK => ?_)
        go_simp
        go_at_call 10
        refine Calls.mono (KP.out V dr.out) ?_
        rintro e V2 CS
        have K2 : Hid (Kp wr V2 P) := by
          rcases CS with ⟨_, _, _, k, _⟩ | ⟨_, _, _, k, _⟩
          · exact (Kp.of_below dr.out P).trans k
          · exact (Kp.of_below dr.out P).trans k
        have D2 : Hid _ := DD.out V2 K2.out
        rcases CS with ⟨n', rfl, s4, k4, _, l4, _⟩ | ⟨_, _, _, _, q⟩
        case inr => exact absurd q (by omega)
        obtain ⟨d', f2, st', _⟩ := ST.out.put (k := yk) (v := yv) (by omega) OKI.out.1 OKI.out.2
        have X : Hid _ := And.intro st' (And.intro s4 (KK.out.trans K2.out))
        clear s4 k4 st' KP
        go_wp2_with fail
        refine hK.out _ _ D2.out (fun hX => ?_)
        clear hK K9 hHeld
        have hHeld := hX
        clear hX
        try simp only [Act.put, List.setIfInBounds_toArray, List.set_cons_zero, List.set_cons_succ]
        refine take2 rfl (i := 14) (v := (.tuple #[.int .u64 ((putT d sh root yk yv).2 : Nat), .int .i64 0])) (d := 55) rfl rfl (by kernel_rfl) (by kernel_rfl) (by kernel_rfl) (fun _ _ _ h => h) (Or.inl ⟨by rfl, ?_⟩) hHeld ?_
        · (intro W hW; (try dsimp only at hW); go_simp)
        try simp only [Act.put, List.setIfInBounds_toArray, List.set_cons_zero, List.set_cons_succ]
        refine take2 rfl (i := 15) (v := (.int .u64 ((putT d sh root yk yv).2 : Nat))) (d := 70) rfl rfl (by kernel_rfl) (by kernel_rfl) (by kernel_rfl) (fun _ _ _ h => h) (Or.inl ⟨by rfl, ?_⟩) hHeld ?_
        · (intro W hW; (try dsimp only at hW); go_simp)
        try simp only [Act.put, List.setIfInBounds_toArray, List.set_cons_zero, List.set_cons_succ]
        refine take2 rfl (i := 16) (v := (.int .i64 0)) (d := 71) rfl rfl (by kernel_rfl) (by kernel_rfl) (by kernel_rfl) (fun _ _ _ h => h) (Or.inl ⟨by rfl, ?_⟩) hHeld ?_
        · (intro W hW; (try dsimp only at hW); go_simp)
        try simp only [Act.put, List.setIfInBounds_toArray, List.set_cons_zero, List.set_cons_succ]
        refine take2 rfl (i := 17) (v := (.int .u64 ((putT d sh root yk yv).2 : Nat))) (d := 8) rfl rfl (by kernel_rfl) (by kernel_rfl) (by kernel_rfl) (fun _ _ _ h => h) (Or.inl ⟨by rfl, ?_⟩) hHeld ?_
        · (intro W hW; (try dsimp only at hW); go_simp)
        try simp only [Act.put, List.setIfInBounds_toArray, List.set_cons_zero, List.set_cons_succ]
        refine wpAnyH_done (by kernel_rfl) ?_ _
        clear hHeld D1 D2 DD
        go_wp2
        go_roundg (len - (i + 1))
        case measure => omega
        case rel => exact ⟨i + 1, _, d', f2, n', _, _, by omega, rfl, rfl, by go_num, X.out.1, X.out.2.1, X.out.2.2, by omega⟩
    · obtain rfl : i = len := by omega
      have LL : Hid (L.length ≤ 60) := (by have := ST.out.len; omega : L.length ≤ 60)
      have TK : (rng L ByteArray.empty ByteArray.empty).take (1000 : Int).toNat = L := by rw [rng_all, List.take_of_length_le (by have := LL.out; omega : L.length ≤ (1000 : Int).toNat)]
      have RNG : Hid (∀ (w : World) (n : Nat) (t : List Pg), SH w P (sh ++ t) 0 n → n ≤ 100000 → Calls Try.prog 12 #[.iface 23 (.pointer (some ⟨P, 0, none⟩)), .int .u64 (root : Nat), .string ByteArray.empty, .string ByteArray.empty, .int .i64 1000] w fun e w' => RaS w w' P (sh ++ t) n L e) := fun w n t s hn => by
        have q := rangeS P (sh ++ t) n root d ByteArray.empty ByteArray.empty 1000 L f' w s (by omega) (ST.out.rt.app t) (by have := LL.out; omega) s.max (by have := dp.out; omega)
        rw [TK] at q
        exact q
      have S0 : Hid (SH wr P (sh ++ []) 0 n) := by rw [List.append_nil]; exact SS.out
      have PL : Hid (P < wr.heap.size) := SS.out.lt
      clear TK
      go_wp2_with fail
      refine Calls.mono (RNG.out wr n [] S0.out (by omega)) ?_
      rintro e wa ⟨va, na, rfl, oa, sa, ka, _, la⟩
      have OA : Hid _ := oa
      rw [List.append_nil] at sa
      have KA : Hid _ := ka
      have T1 : Hid (SH (wa.setCell ⟨P, 2, none⟩ (.int .i64 0)) P sh 0 0 ∧ Kp wa (wa.setCell ⟨P, 2, none⟩ (.int .i64 0)) P) := sa.set2 0
      have T2 : Hid _ := T1.out.1.set1 il
      have KB : Hid _ := T1.out.2.trans T2.out.2
      have SB : Hid _ := T2.out.1
      obtain ⟨d1, d2, fz⟩ := sa.cells
      have d3 := T1.out.1.cells.1
      have f1 := fz 1
      have f2 := fz 2
      have f3 := T1.out.1.cells.2.2 1
      clear oa sa ka la T1 T2 fz S0
      go_upto_region 17 with fail
      clear d1 d2 d3 f1 f2 f3
      generalize ((wa.setCell ⟨P, 2, none⟩ (.int .i64 0)).setCell ⟨P, 1, none⟩ (.int .i64 (il : Nat))) = wb at *
      have XP : Hid (X < P) := X2.out
      have AB : Hid (∀ w', Kp w3 w' P → AcAt w' X 0 ⟨xk, xv, xd⟩) := fun w' k => (A2.out.kept (b3.out.block X (by have := XP.out; omega))).kept (k.low X XP.out (Nat.lt_of_lt_of_le (by have := XP.out; rw [hP]; exact this) b3.out.size))
      have KWB : Hid _ := (KK.out.trans KA.out).trans KB.out
      have e0 := (AB.out wb KWB.out).c0
      have e1 : wb.cell? ⟨X, 1, none⟩ = some (.string xv) := (AB.out wb KWB.out).c1
      have e2 : wb.cell? ⟨X, 2, none⟩ = some (.bool xd) := (AB.out wb KWB.out).c2
      dsimp only at e0
      clear A2 AB H2
      cases xd with
      | true =>
        have KD : Hid (Calls Try.prog 11 #[.iface 23 (.pointer (some ⟨P, 0, none⟩)), .int .u64 (root : Nat), .string xk] wb fun e w' => IlP wb w' P sh il e) := by
          refine Calls.mono (dropS P sh il 0 root d xk L f' wb SB.out (by omega) (by omega) (Or.inr (by omega)) ST.out.rt OKX.out.1 (by have := LL.out; omega) (by have := ST.out.size; omega) (by have := dp.out; omega)) (fun e w' c => ?_)
          by_cases m : ∃ x ∈ L, x.1 = xk
          · obtain ⟨_, _, _, t, et⟩ := ST.out.drop (by omega) m
            exact (c.1 m).il ⟨t, et⟩ (Or.inl rfl) (by omega) (by omega)
          · exact (c.2 m).il ⟨[], by simp⟩ (Or.inr rfl) (by omega) (by omega)
        clear ST SS
        go_wp2_with fail
        refine Calls.mono KD.out ?_
        rintro e wc ⟨n1, er, t, nn, rfl, sc, kc, hnn, cs⟩
        have T1 : Hid (SH (wc.setCell ⟨P, 1, none⟩ (.int .i64 0)) P (sh ++ t) 0 nn ∧ Kp wc (wc.setCell ⟨P, 1, none⟩ (.int .i64 0)) P) := sc.set1 0
        have SD : Hid _ := T1.out.1
        have KD2 : Hid _ := kc.trans T1.out.2
        obtain ⟨d1, d2, fz⟩ := sc.cells
        have f1 := fz 1
        have d3 : (wc.setCell ⟨P, 1, none⟩ (.int .i64 0)).cell? ⟨P, 2, none⟩ = some (.int .i64 (nn : Nat)) := SD.out.cells.2.1
        clear sc kc fz KD e0 e1 e2 T1
        rcases cs with ⟨q0, rfl⟩ | ⟨q0, rfl⟩ | ⟨q0, rfl, rfl⟩
        · have q1 : ¬ (il : Int) ≤ (nn : Int) := by omega
          go_upto_region 25 with fail
          clear d1 d2 d3 f1 q1
          generalize wc.setCell ⟨P, 1, none⟩ (.int .i64 0) = wd at *
          go_wp2_with fail
          refine Calls.mono (RNG.out wd nn t SD.out (by omega)) ?_
          rintro e we ⟨vb, nb, rfl, ob, sb, kb, _, lb⟩
          have KE : Hid _ := ((KWB.out.trans KD2.out).trans kb)
          have KAE : Hid _ := (KB.out.trans KD2.out).trans kb
          have OA2 : Hid _ := ownsI_kp OA.out KAE.out PL.out
          have OB2 : Hid _ := ob
          have FB : Hid (Below X W we) := by have q := kp_end hP (by rw [hX]; exact B2.out : Below W.heap.size W w2) b3.out KE.out; rw [hX] at q; exact q
          clear ob sb kb lb RNG OA SD KD2 KE KAE KWB KB SB KA
          obtain ⟨xa, ya, ba, IA⟩ := IR2.of OA2.out
          obtain ⟨xb, yb, bb, IB⟩ := IR2.of OB2.out
          have ea := IA.v
          have eb := IB.v
          subst ea eb
          have ll := LL.out
          go_upto_region 29 with fail
          go_loopg [16] L.length (fun g iv wq => ∃ j : Nat, j ≤ L.length ∧ g = L.length - j ∧ iv = .int .i64 (j : Nat) ∧ Hid (Below we.heap.size we wq))
          case atStart => exact ⟨0, by omega, rfl, rfl, Below.refl _ _⟩
          case round =>
            obtain ⟨j, hj, rfl, rfl, BQ⟩ := hrel
            by_cases cj : j < L.length
            · have cj' : (j : Int) < (L.length : Int) := by omega
              obtain ⟨x, hx⟩ : ∃ x, L[j]? = some x := ⟨_, List.getElem?_eq_getElem cj⟩
              have kq : ∀ (b i : Nat) (u : Value), we.cell? ⟨b, i, none⟩ = some u → wr.cell? ⟨b, i, none⟩ = some u := fun b i u q => (World.cell?_of_block (w := we) (a := ⟨b, i, none⟩) (BQ.out.block b (World.block_lt_of_cell? _ _ q))).trans q
              have pa := IA.a (by omega)
              have pb := IB.a (by omega)
              subst pa pb
              have a0 := kq _ _ _ (IA.c0 j x hx)
              have a1 := kq _ _ _ (IA.c1 j x hx)
              have b0 := kq _ _ _ (IB.c0 j x hx)
              have b1 := kq _ _ _ (IB.c1 j x hx)
              clear kq hx
              obtain ⟨x1, x2⟩ := x
              dsimp only at a0 a1 b0 b1
              go_upto_region 31 with fail
              go_quiet (fail)
              have BQ2 : Hid _ := nextB BQ.out (drewB wr nq)
              generalize wr.drewN nq = wr2 at *
              clear a0 a1 b0 b1
              go_wp2
              go_roundg (L.length - (j + 1))
              case measure => omega
              case rel => exact ⟨j + 1, by omega, rfl, by go_num, BQ2.out⟩
            · obtain rfl : j = L.length := by omega
              have FIN : Hid (Below X W wr) := by have q := nextB (by rw [hX]; exact FB.out : Below W.heap.size W we) BQ.out; rw [hX] at q; exact q
              go_wp2
              go_ret
              exact ⟨rfl, by rw [hX]; exact FIN.out⟩
        · have q1 : ¬ (il : Int) ≤ (nn : Int) := by omega
          go_upto_region 25 with fail
          clear d1 d2 d3 f1 q1
          generalize wc.setCell ⟨P, 1, none⟩ (.int .i64 0) = wd at *
          go_wp2_with fail
          refine Calls.mono (RNG.out wd nn t SD.out (by omega)) ?_
          rintro e we ⟨vb, nb, rfl, ob, sb, kb, _, lb⟩
          have KE : Hid _ := ((KWB.out.trans KD2.out).trans kb)
          have KAE : Hid _ := (KB.out.trans KD2.out).trans kb
          have OA2 : Hid _ := ownsI_kp OA.out KAE.out PL.out
          have OB2 : Hid _ := ob
          have FB : Hid (Below X W we) := by have q := kp_end hP (by rw [hX]; exact B2.out : Below W.heap.size W w2) b3.out KE.out; rw [hX] at q; exact q
          clear ob sb kb lb RNG OA SD KD2 KE KAE KWB KB SB KA
          obtain ⟨xa, ya, ba, IA⟩ := IR2.of OA2.out
          obtain ⟨xb, yb, bb, IB⟩ := IR2.of OB2.out
          have ea := IA.v
          have eb := IB.v
          subst ea eb
          have ll := LL.out
          go_upto_region 29 with fail
          go_loopg [16] L.length (fun g iv wq => ∃ j : Nat, j ≤ L.length ∧ g = L.length - j ∧ iv = .int .i64 (j : Nat) ∧ Hid (Below we.heap.size we wq))
          case atStart => exact ⟨0, by omega, rfl, rfl, Below.refl _ _⟩
          case round =>
            obtain ⟨j, hj, rfl, rfl, BQ⟩ := hrel
            by_cases cj : j < L.length
            · have cj' : (j : Int) < (L.length : Int) := by omega
              obtain ⟨x, hx⟩ : ∃ x, L[j]? = some x := ⟨_, List.getElem?_eq_getElem cj⟩
              have kq : ∀ (b i : Nat) (u : Value), we.cell? ⟨b, i, none⟩ = some u → wr.cell? ⟨b, i, none⟩ = some u := fun b i u q => (World.cell?_of_block (w := we) (a := ⟨b, i, none⟩) (BQ.out.block b (World.block_lt_of_cell? _ _ q))).trans q
              have pa := IA.a (by omega)
              have pb := IB.a (by omega)
              subst pa pb
              have a0 := kq _ _ _ (IA.c0 j x hx)
              have a1 := kq _ _ _ (IA.c1 j x hx)
              have b0 := kq _ _ _ (IB.c0 j x hx)
              have b1 := kq _ _ _ (IB.c1 j x hx)
              clear kq hx
              obtain ⟨x1, x2⟩ := x
              dsimp only at a0 a1 b0 b1
              go_upto_region 31 with fail
              go_quiet (fail)
              have BQ2 : Hid _ := nextB BQ.out (drewB wr nq)
              generalize wr.drewN nq = wr2 at *
              clear a0 a1 b0 b1
              go_wp2
              go_roundg (L.length - (j + 1))
              case measure => omega
              case rel => exact ⟨j + 1, by omega, rfl, by go_num, BQ2.out⟩
            · obtain rfl : j = L.length := by omega
              have FIN : Hid (Below X W wr) := by have q := nextB (by rw [hX]; exact FB.out : Below W.heap.size W we) BQ.out; rw [hX] at q; exact q
              go_wp2
              go_ret
              exact ⟨rfl, by rw [hX]; exact FIN.out⟩
        · have q1 : (il : Int) ≤ (nn : Int) := by omega
          go_upto_region 25 with fail
          clear d1 d2 d3 f1 q1
          generalize wc.setCell ⟨P, 1, none⟩ (.int .i64 0) = wd at *
          go_wp2_with fail
          refine Calls.mono (RNG.out wd nn t SD.out (by omega)) ?_
          rintro e we ⟨vb, nb, rfl, ob, sb, kb, _, lb⟩
          have KE : Hid _ := ((KWB.out.trans KD2.out).trans kb)
          have KAE : Hid _ := (KB.out.trans KD2.out).trans kb
          have OA2 : Hid _ := ownsI_kp OA.out KAE.out PL.out
          have OB2 : Hid _ := ob
          have FB : Hid (Below X W we) := by have q := kp_end hP (by rw [hX]; exact B2.out : Below W.heap.size W w2) b3.out KE.out; rw [hX] at q; exact q
          clear ob sb kb lb RNG OA SD KD2 KE KAE KWB KB SB KA
          obtain ⟨xa, ya, ba, IA⟩ := IR2.of OA2.out
          obtain ⟨xb, yb, bb, IB⟩ := IR2.of OB2.out
          have ea := IA.v
          have eb := IB.v
          subst ea eb
          have ll := LL.out
          go_upto_region 29 with fail
          go_loopg [16] L.length (fun g iv wq => ∃ j : Nat, j ≤ L.length ∧ g = L.length - j ∧ iv = .int .i64 (j : Nat) ∧ Hid (Below we.heap.size we wq))
          case atStart => exact ⟨0, by omega, rfl, rfl, Below.refl _ _⟩
          case round =>
            obtain ⟨j, hj, rfl, rfl, BQ⟩ := hrel
            by_cases cj : j < L.length
            · have cj' : (j : Int) < (L.length : Int) := by omega
              obtain ⟨x, hx⟩ : ∃ x, L[j]? = some x := ⟨_, List.getElem?_eq_getElem cj⟩
              have kq : ∀ (b i : Nat) (u : Value), we.cell? ⟨b, i, none⟩ = some u → wr.cell? ⟨b, i, none⟩ = some u := fun b i u q => (World.cell?_of_block (w := we) (a := ⟨b, i, none⟩) (BQ.out.block b (World.block_lt_of_cell? _ _ q))).trans q
              have pa := IA.a (by omega)
              have pb := IB.a (by omega)
              subst pa pb
              have a0 := kq _ _ _ (IA.c0 j x hx)
              have a1 := kq _ _ _ (IA.c1 j x hx)
              have b0 := kq _ _ _ (IB.c0 j x hx)
              have b1 := kq _ _ _ (IB.c1 j x hx)
              clear kq hx
              obtain ⟨x1, x2⟩ := x
              dsimp only at a0 a1 b0 b1
              go_upto_region 31 with fail
              go_quiet (fail)
              have BQ2 : Hid _ := nextB BQ.out (drewB wr nq)
              generalize wr.drewN nq = wr2 at *
              clear a0 a1 b0 b1
              go_wp2
              go_roundg (L.length - (j + 1))
              case measure => omega
              case rel => exact ⟨j + 1, by omega, rfl, by go_num, BQ2.out⟩
            · obtain rfl : j = L.length := by omega
              have FIN : Hid (Below X W wr) := by have q := nextB (by rw [hX]; exact FB.out : Below W.heap.size W we) BQ.out; rw [hX] at q; exact q
              go_wp2
              go_ret
              exact ⟨rfl, by rw [hX]; exact FIN.out⟩
      | false =>
        have KD : Hid (Calls Try.prog 10 #[.iface 23 (.pointer (some ⟨P, 0, none⟩)), .int .u64 (root : Nat), .string xk, .string xv] wb fun e w' => IlP wb w' P sh il e) := by
          refine Calls.mono (putS P sh il 0 root d xk xv L f' wb SB.out (by omega) (by omega) (Or.inr (by omega)) ST.out.rt OKX.out.1 OKX.out.2 (by have := LL.out; omega) (by have := ST.out.size; omega) (by have := dp.out; omega)) (fun e w' c => ?_)
          obtain ⟨_, _, _, _, t, et⟩ := ST.out.put (k := xk) (v := xv) (by omega) OKX.out.1 OKX.out.2
          exact c.il ⟨t, et⟩ (Or.inl rfl) (by omega) (by omega)
        clear ST SS
        go_wp2_with fail
        refine Calls.mono KD.out ?_
        rintro e wc ⟨n1, er, t, nn, rfl, sc, kc, hnn, cs⟩
        have T1 : Hid (SH (wc.setCell ⟨P, 1, none⟩ (.int .i64 0)) P (sh ++ t) 0 nn ∧ Kp wc (wc.setCell ⟨P, 1, none⟩ (.int .i64 0)) P) := sc.set1 0
        have SD : Hid _ := T1.out.1
        have KD2 : Hid _ := kc.trans T1.out.2
        obtain ⟨d1, d2, fz⟩ := sc.cells
        have f1 := fz 1
        have d3 : (wc.setCell ⟨P, 1, none⟩ (.int .i64 0)).cell? ⟨P, 2, none⟩ = some (.int .i64 (nn : Nat)) := SD.out.cells.2.1
        clear sc kc fz KD e0 e1 e2 T1
        rcases cs with ⟨q0, rfl⟩ | ⟨q0, rfl⟩ | ⟨q0, rfl, rfl⟩
        · have q1 : ¬ (il : Int) ≤ (nn : Int) := by omega
          go_upto_region 25 with fail
          clear d1 d2 d3 f1 q1
          generalize wc.setCell ⟨P, 1, none⟩ (.int .i64 0) = wd at *
          go_wp2_with fail
          refine Calls.mono (RNG.out wd nn t SD.out (by omega)) ?_
          rintro e we ⟨vb, nb, rfl, ob, sb, kb, _, lb⟩
          have KE : Hid _ := ((KWB.out.trans KD2.out).trans kb)
          have KAE : Hid _ := (KB.out.trans KD2.out).trans kb
          have OA2 : Hid _ := ownsI_kp OA.out KAE.out PL.out
          have OB2 : Hid _ := ob
          have FB : Hid (Below X W we) := by have q := kp_end hP (by rw [hX]; exact B2.out : Below W.heap.size W w2) b3.out KE.out; rw [hX] at q; exact q
          clear ob sb kb lb RNG OA SD KD2 KE KAE KWB KB SB KA
          obtain ⟨xa, ya, ba, IA⟩ := IR2.of OA2.out
          obtain ⟨xb, yb, bb, IB⟩ := IR2.of OB2.out
          have ea := IA.v
          have eb := IB.v
          subst ea eb
          have ll := LL.out
          go_upto_region 29 with fail
          go_loopg [16] L.length (fun g iv wq => ∃ j : Nat, j ≤ L.length ∧ g = L.length - j ∧ iv = .int .i64 (j : Nat) ∧ Hid (Below we.heap.size we wq))
          case atStart => exact ⟨0, by omega, rfl, rfl, Below.refl _ _⟩
          case round =>
            obtain ⟨j, hj, rfl, rfl, BQ⟩ := hrel
            by_cases cj : j < L.length
            · have cj' : (j : Int) < (L.length : Int) := by omega
              obtain ⟨x, hx⟩ : ∃ x, L[j]? = some x := ⟨_, List.getElem?_eq_getElem cj⟩
              have kq : ∀ (b i : Nat) (u : Value), we.cell? ⟨b, i, none⟩ = some u → wr.cell? ⟨b, i, none⟩ = some u := fun b i u q => (World.cell?_of_block (w := we) (a := ⟨b, i, none⟩) (BQ.out.block b (World.block_lt_of_cell? _ _ q))).trans q
              have pa := IA.a (by omega)
              have pb := IB.a (by omega)
              subst pa pb
              have a0 := kq _ _ _ (IA.c0 j x hx)
              have a1 := kq _ _ _ (IA.c1 j x hx)
              have b0 := kq _ _ _ (IB.c0 j x hx)
              have b1 := kq _ _ _ (IB.c1 j x hx)
              clear kq hx
              obtain ⟨x1, x2⟩ := x
              dsimp only at a0 a1 b0 b1
              go_upto_region 31 with fail
              go_quiet (fail)
              have BQ2 : Hid _ := nextB BQ.out (drewB wr nq)
              generalize wr.drewN nq = wr2 at *
              clear a0 a1 b0 b1
              go_wp2
              go_roundg (L.length - (j + 1))
              case measure => omega
              case rel => exact ⟨j + 1, by omega, rfl, by go_num, BQ2.out⟩
            · obtain rfl : j = L.length := by omega
              have FIN : Hid (Below X W wr) := by have q := nextB (by rw [hX]; exact FB.out : Below W.heap.size W we) BQ.out; rw [hX] at q; exact q
              go_wp2
              go_ret
              exact ⟨rfl, by rw [hX]; exact FIN.out⟩
        · have q1 : ¬ (il : Int) ≤ (nn : Int) := by omega
          go_upto_region 25 with fail
          clear d1 d2 d3 f1 q1
          generalize wc.setCell ⟨P, 1, none⟩ (.int .i64 0) = wd at *
          go_wp2_with fail
          refine Calls.mono (RNG.out wd nn t SD.out (by omega)) ?_
          rintro e we ⟨vb, nb, rfl, ob, sb, kb, _, lb⟩
          have KE : Hid _ := ((KWB.out.trans KD2.out).trans kb)
          have KAE : Hid _ := (KB.out.trans KD2.out).trans kb
          have OA2 : Hid _ := ownsI_kp OA.out KAE.out PL.out
          have OB2 : Hid _ := ob
          have FB : Hid (Below X W we) := by have q := kp_end hP (by rw [hX]; exact B2.out : Below W.heap.size W w2) b3.out KE.out; rw [hX] at q; exact q
          clear ob sb kb lb RNG OA SD KD2 KE KAE KWB KB SB KA
          obtain ⟨xa, ya, ba, IA⟩ := IR2.of OA2.out
          obtain ⟨xb, yb, bb, IB⟩ := IR2.of OB2.out
          have ea := IA.v
          have eb := IB.v
          subst ea eb
          have ll := LL.out
          go_upto_region 29 with fail
          go_loopg [16] L.length (fun g iv wq => ∃ j : Nat, j ≤ L.length ∧ g = L.length - j ∧ iv = .int .i64 (j : Nat) ∧ Hid (Below we.heap.size we wq))
          case atStart => exact ⟨0, by omega, rfl, rfl, Below.refl _ _⟩
          case round =>
            obtain ⟨j, hj, rfl, rfl, BQ⟩ := hrel
            by_cases cj : j < L.length
            · have cj' : (j : Int) < (L.length : Int) := by omega
              obtain ⟨x, hx⟩ : ∃ x, L[j]? = some x := ⟨_, List.getElem?_eq_getElem cj⟩
              have kq : ∀ (b i : Nat) (u : Value), we.cell? ⟨b, i, none⟩ = some u → wr.cell? ⟨b, i, none⟩ = some u := fun b i u q => (World.cell?_of_block (w := we) (a := ⟨b, i, none⟩) (BQ.out.block b (World.block_lt_of_cell? _ _ q))).trans q
              have pa := IA.a (by omega)
              have pb := IB.a (by omega)
              subst pa pb
              have a0 := kq _ _ _ (IA.c0 j x hx)
              have a1 := kq _ _ _ (IA.c1 j x hx)
              have b0 := kq _ _ _ (IB.c0 j x hx)
              have b1 := kq _ _ _ (IB.c1 j x hx)
              clear kq hx
              obtain ⟨x1, x2⟩ := x
              dsimp only at a0 a1 b0 b1
              go_upto_region 31 with fail
              go_quiet (fail)
              have BQ2 : Hid _ := nextB BQ.out (drewB wr nq)
              generalize wr.drewN nq = wr2 at *
              clear a0 a1 b0 b1
              go_wp2
              go_roundg (L.length - (j + 1))
              case measure => omega
              case rel => exact ⟨j + 1, by omega, rfl, by go_num, BQ2.out⟩
            · obtain rfl : j = L.length := by omega
              have FIN : Hid (Below X W wr) := by have q := nextB (by rw [hX]; exact FB.out : Below W.heap.size W we) BQ.out; rw [hX] at q; exact q
              go_wp2
              go_ret
              exact ⟨rfl, by rw [hX]; exact FIN.out⟩
        · have q1 : (il : Int) ≤ (nn : Int) := by omega
          go_upto_region 25 with fail
          clear d1 d2 d3 f1 q1
          generalize wc.setCell ⟨P, 1, none⟩ (.int .i64 0) = wd at *
          go_wp2_with fail
          refine Calls.mono (RNG.out wd nn t SD.out (by omega)) ?_
          rintro e we ⟨vb, nb, rfl, ob, sb, kb, _, lb⟩
          have KE : Hid _ := ((KWB.out.trans KD2.out).trans kb)
          have KAE : Hid _ := (KB.out.trans KD2.out).trans kb
          have OA2 : Hid _ := ownsI_kp OA.out KAE.out PL.out
          have OB2 : Hid _ := ob
          have FB : Hid (Below X W we) := by have q := kp_end hP (by rw [hX]; exact B2.out : Below W.heap.size W w2) b3.out KE.out; rw [hX] at q; exact q
          clear ob sb kb lb RNG OA SD KD2 KE KAE KWB KB SB KA
          obtain ⟨xa, ya, ba, IA⟩ := IR2.of OA2.out
          obtain ⟨xb, yb, bb, IB⟩ := IR2.of OB2.out
          have ea := IA.v
          have eb := IB.v
          subst ea eb
          have ll := LL.out
          go_upto_region 29 with fail
          go_loopg [16] L.length (fun g iv wq => ∃ j : Nat, j ≤ L.length ∧ g = L.length - j ∧ iv = .int .i64 (j : Nat) ∧ Hid (Below we.heap.size we wq))
          case atStart => exact ⟨0, by omega, rfl, rfl, Below.refl _ _⟩
          case round =>
            obtain ⟨j, hj, rfl, rfl, BQ⟩ := hrel
            by_cases cj : j < L.length
            · have cj' : (j : Int) < (L.length : Int) := by omega
              obtain ⟨x, hx⟩ : ∃ x, L[j]? = some x := ⟨_, List.getElem?_eq_getElem cj⟩
              have kq : ∀ (b i : Nat) (u : Value), we.cell? ⟨b, i, none⟩ = some u → wr.cell? ⟨b, i, none⟩ = some u := fun b i u q => (World.cell?_of_block (w := we) (a := ⟨b, i, none⟩) (BQ.out.block b (World.block_lt_of_cell? _ _ q))).trans q
              have pa := IA.a (by omega)
              have pb := IB.a (by omega)
              subst pa pb
              have a0 := kq _ _ _ (IA.c0 j x hx)
              have a1 := kq _ _ _ (IA.c1 j x hx)
              have b0 := kq _ _ _ (IB.c0 j x hx)
              have b1 := kq _ _ _ (IB.c1 j x hx)
              clear kq hx
              obtain ⟨x1, x2⟩ := x
              dsimp only at a0 a1 b0 b1
              go_upto_region 31 with fail
              go_quiet (fail)
              have BQ2 : Hid _ := nextB BQ.out (drewB wr nq)
              generalize wr.drewN nq = wr2 at *
              clear a0 a1 b0 b1
              go_wp2
              go_roundg (L.length - (j + 1))
              case measure => omega
              case rel => exact ⟨j + 1, by omega, rfl, by go_num, BQ2.out⟩
            · obtain rfl : j = L.length := by omega
              have FIN : Hid (Below X W wr) := by have q := nextB (by rw [hX]; exact FB.out : Below W.heap.size W we) BQ.out; rw [hX] at q; exact q
              go_wp2
              go_ret
              exact ⟨rfl, by rw [hX]; exact FIN.out⟩


set_option maxRecDepth 100000 in
theorem lifted (os : Os) (started : os.Started) (H : Type) (enc : TypeId × Value → H) :
    ReturnsInHanded {} Try.checked os 7 .any (Rows.treeIllSpec.pre6 enc Try.prog Try.f7 Rows.treeIllRow.domain false) (Rows.treeIllSpec.post enc Try.prog Try.f7 false true false false) := by
  refine returnsInHanded_of_change_sized (C := Try.checked) own started (by kernel_rfl) Try.func7
    (ChangeSpec.witness6 (enc := enc) (C := Try.checked) false ⟨#[], #[.slice none 0 0, .agg #[.string ByteArray.empty, .string ByteArray.empty, .bool false], .int .i64 0], []⟩ 8 (by kernel_rfl) (by kernel_rfl) (by kernel_rfl) (by kernel_rfl)) ?_
  intro W base args ds gs before hval0 hW hcnd hwt _
  have hval : ∀ (j : Nat) t v, Try.f7.params[j]? = some t → args[j]? = some v → Value.okWide Try.prog W .any base t v := hval0
  have hwz : ∀ (j : Nat) t d, (Try.f7.params.toList ++ Rows.treeIllSpec.plain.varTypes Try.prog)[j]? = some t → (ds ++ gs)[j]? = some d → ∀ n ∈ d.weights Try.prog t, n ≤ reachBytes := fun j t d ht hd n hn => by
    simpa using List.all_eq_true.1 hwt n (DataW.weights_mem_each ht hd n hn)
  have hW' := hW
  obtain ⟨p, q, hA0, hV, rfl, hfz, hnd⟩ := hW
  have hA : DataW.TrodAll enc Try.prog W 0 (fun _ => true) true Try.f7.params.toList args.toList ds p := hA0
  rw [Try.params7] at hA hval hwz
  obtain ⟨v0, vs0, d0, ds0, p0, q0, hargs, rfl, rfl, h0, r0⟩ := trodAll_cons hA
  obtain ⟨v1, vs1, d1, ds1, p1, q1, rfl, rfl, rfl, h1, r1⟩ := trodAll_cons r0
  obtain ⟨v2, vs2, d2, ds2, p2, q2, rfl, rfl, rfl, h2, r2⟩ := trodAll_cons r1
  obtain ⟨rfl, rfl, rfl⟩ := trodAll_nil r2
  obtain rfl : args = #[v0, v1, v2] := by cases args; simp_all
  obtain ⟨rfl, rfl⟩ := trodVars_none hV
  have k0 := h0
  have lt0 : ∀ x ∈ p0, x.block < W.heap.size := by obtain ⟨m, hm⟩ := k0; exact DataW.trod_lt m _ _ _ hm
  obtain ⟨a0, len0, cap0, rfl⟩ := okWide_slice Try.underlying36 (hval 0 36 v0 rfl rfl)
  obtain ⟨f0, w0⟩ : ∃ f, Acts W a0 len0 cap0 f := by
    obtain ⟨fuel, hf⟩ := h0
    exact acts_of hf
  have k1 := h1
  have lt1 : ∀ x ∈ p1, x.block < W.heap.size := by obtain ⟨m, hm⟩ := k1; exact DataW.trod_lt m _ _ _ hm
  obtain ⟨c0_1, c1_1, c2_1, y0_1, y1_1, y2_1, n_1, rfl, rfl, rfl, t0_1, t1_1, t2_1⟩ := open_agg3 Try.underlying46 (by kernel_rfl) (by kernel_rfl) (hval 1 46 v1 rfl rfl) h1
  obtain ⟨u0_1, rfl⟩ := string_of t0_1
  obtain ⟨u1_1, rfl⟩ := string_of t1_1
  obtain ⟨u2_1, rfl⟩ := bool_of t2_1
  obtain ⟨a2, rfl, rfl, rfl, w2⟩ := open_int Try.underlying3 (hval 2 3 v2 rfl rfl) h2
  clear hA0 hval0
  try simp only [List.append_nil, List.nil_append] at hW'
  refine (walk W a0 len0 cap0 f0 w0 u0_1 u1_1 u2_1 a2).mono fun e W' ⟨he, bel⟩ => ?_
  subst he
  exact ⟨_, rfl, _, _, _, [], _, [], hW', trodAll_mk1 (shut_bool Try.underlying4 _), (trodAll_cons_mk (Below.trod laidOut (by kernel_rfl) (of_decide_eq_true (by kernel_rfl)) k0 bel lt0) (trodAll_cons_mk (Below.trod laidOut (by kernel_rfl) (of_decide_eq_true (by kernel_rfl)) k1 bel lt1) (trodAll_cons_mk (shut_int Try.underlying3 w2) trodAll_mk0))), rfl, bel.frame _, fun h => by cases h⟩

theorem over : Rows.treeIllRow.holds Try.pinned (OpenSpec.ofChange Rows.treeIllSpec) :=
  OpenClaim.holds_of_wide 7 Try.f7 rfl rfl rfl rfl rfl rfl rfl ⟨rfl, rfl, rfl, rfl, rfl⟩ rfl rfl rfl rfl rfl (by kernel_rfl) Try.func7 (by kernel_rfl)
    (of_decide_eq_true (by kernel_rfl)) (by unfold Func.isWrapper; first | (rw [if_pos (by decide +kernel)]; kernel_rfl) | (rw [if_neg (by decide +kernel)]; exact ⟨rfl, rfl⟩))
    (fun os started H enc _ => lifted os started H enc)

end Go.Proofs.Ythdjghmipepppaa.treeIll
namespace Go.Proofs.Ythdjghmipepppaa

theorem TreeIll_holds : Rows.TreeIllSaid := treeIll.over

end Go.Proofs.Ythdjghmipepppaa
