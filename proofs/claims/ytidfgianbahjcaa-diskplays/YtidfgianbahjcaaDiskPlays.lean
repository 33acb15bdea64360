/- Proved: the law DiskPlays of package publicanlaw4 returns true for every number of sectors and every row of acts, whatever memory it starts in, on every schedule; no condition. -/
import Derived.Test.YtidfgianbahjcaaF1
namespace Go.Proofs.Ytidfgianbahjcaa.diskPlays
open Go.ChangeShapes Go.WideShapes Go.ChangeAt Go.RowKit
set_option linter.unusedVariables false

set_option maxRecDepth 100000 in
set_option maxHeartbeats 2000000 in
theorem walk_no (w : World) (n : Int) (a : Option Addr) (len cap : Nat) (h : n < 1 ∨ 4096 < n) : Calls Try.prog 4 #[.int .i64 n, .slice a len cap] w fun e w' => e = .returned (.bool true) ∧ Below w.heap.size w w' := by
  have NN : Hid _ := fun W => New_no n W h
  by_cases h1 : n < 1
  · clear h
    go_enter Try.func4, Try.ntmps4
    go_wp2_with (first | (go_at_call 7; refine (awake_any w).mono ?_; rintro e w1 ⟨rfl, b1⟩) | (go_at_call 8; refine (NN.out _).mono ?_; rintro e w2 ⟨rfl, rfl⟩))
    go_ret
    exact ⟨rfl, b1⟩
  · have h2 : 4096 < n := by omega
    clear h
    go_enter Try.func4, Try.ntmps4
    go_wp2_with (first | (go_at_call 7; refine (awake_any w).mono ?_; rintro e w1 ⟨rfl, b1⟩) | (go_at_call 8; refine (NN.out _).mono ?_; rintro e w2 ⟨rfl, rfl⟩))
    go_ret
    exact ⟨rfl, b1⟩
set_option maxRecDepth 100000 in
set_option maxHeartbeats 2000000 in
theorem walk_big (w : World) (n : Nat) (a : Option Addr) (len cap : Nat) (h1 : 1 ≤ n) (h2 : n ≤ 4096) (h3 : 100 < len ∨ 64 < n) : Calls Try.prog 4 #[.int .i64 (n : Nat), .slice a len cap] w fun e w' => e = .returned (.bool true) ∧ Below w.heap.size w w' := by
  have NY : Hid _ := fun W => New_yes n W h1 h2
  have e1 : ¬ (n : Int) < 1 := by omega
  have e2 : ¬ (4096 : Int) < (n : Int) := by omega
  clear h1 h2
  by_cases hl : 100 < len
  · have e3 : (100 : Int) < (len : Int) := by omega
    clear h3
    go_enter Try.func4, Try.ntmps4
    go_wp2_with (first | (go_at_call 7; refine (awake_any w).mono ?_; rintro e w1 ⟨rfl, b1⟩) | (go_at_call 8; refine (NY.out _).mono ?_; rintro e w2 ⟨rfl, -, b2⟩))
    go_ret
    exact ⟨rfl, nextB b1 b2⟩
  · have e3 : ¬ (100 : Int) < (len : Int) := by omega
    have e4 : (64 : Int) < (n : Int) := by omega
    clear h3
    go_enter Try.func4, Try.ntmps4
    go_wp2_with (first | (go_at_call 7; refine (awake_any w).mono ?_; rintro e w1 ⟨rfl, b1⟩) | (go_at_call 8; refine (NY.out _).mono ?_; rintro e w2 ⟨rfl, -, b2⟩))
    go_ret
    exact ⟨rfl, nextB b1 b2⟩

theorem nn (b : Bool) : (b == !b) = false := by cases b <;> rfl
theorem qPower {w0 w : World} {p q p' q' n : Nat} {s : St} (h : Both w0 p q p' q' n s w) : ∀ k, Calls Try.prog 18 #[.pointer (some ⟨p, 0, none⟩)] (w.drewN k) fun e w' => e = .returned (.bool s.on) ∧ w' = w.drewN k :=
  fun k => (Power_any p q n s _ (h.i.d.drewN k)).mono fun e w' ⟨a, b⟩ => ⟨a, b.symm⟩
theorem qWrites {w0 w : World} {p q p' q' n : Nat} {s : St} (h : Both w0 p q p' q' n s w) : ∀ k, Calls Try.prog 19 #[.pointer (some ⟨p, 0, none⟩)] (w.drewN k) fun e w' => e = .returned (.int .i64 (s.writes : Nat)) ∧ w' = w.drewN k :=
  fun k => (Writes_any p q n s _ (h.i.d.drewN k)).mono fun e w' ⟨a, b⟩ => ⟨a, b.symm⟩
theorem qLives {w0 w : World} {p q p' q' n : Nat} {s : St} (h : Both w0 p q p' q' n s w) : ∀ k, Calls Try.prog 20 #[.pointer (some ⟨p, 0, none⟩)] (w.drewN k) fun e w' => e = .returned (.int .i64 (s.lives : Nat)) ∧ w' = w.drewN k :=
  fun k => (Lives_any p q n s _ (h.i.d.drewN k)).mono fun e w' ⟨a, b⟩ => ⟨a, b.symm⟩
theorem Both.drewN {w0 wr : World} {p q p' q' n : Nat} {s : St} (h : Both w0 p q p' q' n s wr) (k : Nat) : Both w0 p q p' q' n s (wr.drewN k) :=
  h.below ⟨rfl, rfl, rfl, Nat.le_refl _, fun _ _ => rfl⟩

theorem box_cell {w0 wr w2 : World} {p q p' q' n : Nat} {s : St} (h : Both w0 p q p' q' n s wr) {cs : Array Value} {t : TypeId} (g : Gr p q (wr.alloc (.cells cs t)) w2) (j : Nat) : w2.cell? ⟨wr.heap.size, j, none⟩ = cs[j]? := by
  have hp := h.i.d.ltp
  have hq := h.i.d.ltq
  rw [World.cell?_of_block (w := wr.alloc (.cells cs t)) (a := ⟨wr.heap.size, j, none⟩) (g.block wr.heap.size (by simp) (by omega) (by omega)), cell_of_row _ _ _ _ _ _ (heap_alloc_last wr _)]

set_option maxRecDepth 100000 in
set_option maxHeartbeats 16000000 in
theorem walk_main (w : World) (n : Nat) (a : Option Addr) (len cap : Nat) (f : Nat → Ac) (hf : Acts w a len cap f) (h1 : 1 ≤ n) (h2 : n ≤ 64) (h3 : len ≤ 100) : Calls Try.prog 4 #[.int .i64 (n : Nat), .slice a len cap] w fun e w' => e = .returned (.bool true) ∧ Below w.heap.size w w' := by
  have F : Hid _ := hf
  have NY : Hid _ := fun W => New_yes n W h1 (by omega)
  have e1 : ¬ (n : Int) < 1 := by omega
  have e2 : ¬ (4096 : Int) < (n : Int) := by omega
  have e3 : ¬ (100 : Int) < (len : Int) := by omega
  have e4 : ¬ (64 : Int) < (n : Int) := by omega
  have fc := hf.fits
  have cm : (cap : Int) ≤ 9223372036854775807 := by have := hf.max; unfold maxLen at this; omega
  clear hf
  go_enter Try.func4, Try.ntmps4
  go_wp2_with fail
  refine (awake_any w).mono ?_
  rintro e w1 ⟨rfl, b1⟩
  have B1 : Hid _ := b1
  clear b1
  go_wp2_with fail
  refine (NY.out w1).mono ?_
  rintro e w2 ⟨rfl, d2, b2⟩
  have T2 : Hid _ := InvD.new B1.out d2 b2 (by omega) (Nat.le_refl _)
  clear d2 b2 B1 NY
  generalize w1.heap.size + 1 = p at *
  generalize w1.heap.size = q at *
  go_wp2_with fail
  refine (NewDisk_any n w2 h1 h2).mono ?_
  rintro e w3 ⟨q', rfl, k3, hq', b3⟩
  have T3 : Hid (Both w p q w2.heap.size q' n fresh w3) := by
    have hp := T2.out.d.ltp
    have hq := T2.out.d.ltq
    have hb := T2.out.b.size
    exact ⟨T2.out.below b3, k3, ⟨by omega, by omega, by omega, by omega⟩, hb, by omega⟩
  clear k3 hq' b3 T2
  generalize w2.heap.size = p' at *
  go_wp2_with fail
  go_loopg [5, 8] len (fun g dv iv wr => ∃ (k p q : Nat), k ≤ len ∧ g = len - k ∧ dv = .pointer (some ⟨p, 0, none⟩) ∧ iv = .int .i64 k ∧ Hid (Both w p q p' q' n (run n fresh f k) wr))
  case atStart => exact ⟨0, p, q, Nat.zero_le _, rfl, rfl, rfl, T3.out⟩
  case round =>
    clear T3
    obtain ⟨k, p, q, hk, rfl, rfl, rfl, T⟩ := hrel
    by_cases qk : k < len
    · have qk' : (k : Int) < (len : Int) := by omega
      obtain ⟨g, o, A1, A2⟩ := F.out.at_
      obtain rfl := A1 (by omega)
      obtain ⟨a', m, c, X⟩ := A2 k qk
      have bd := run_bd n fresh f k
      have X0 : Hid _ := X
      have old : ∀ j v, w.cell? ⟨g, j, none⟩ = some v → wr.cell? ⟨g, j, none⟩ = some v := fun j v hv => by
        rw [T.out.i.b.cell (p := ⟨g, j, none⟩) (World.block_lt_of_cell? _ _ hv)]; exact hv
      have x0 := old _ _ X.c0
      have x1 := old _ _ X.c1
      have x2 := old _ _ X.c2
      have x3 := old _ _ X.c3
      have x4 := old _ _ X.c4
      have nm := X.nm
      have WL : Hid ((run n fresh f k).writes ≤ 1000 ∧ (run n fresh f k).lives ≤ 1000) := by
        have f1 : fresh.writes = 0 := rfl
        have f2 : fresh.lives = 1 := rfl
        exact ⟨by omega, by omega⟩
      have RS : Hid (run n fresh f (k + 1) = act n (run n fresh f k) (f k)) := rfl
      generalize hx : f k = x at *
      generalize hs : run n fresh f k = s at *
      clear old X bd hx A1 A2
      by_cases o0 : x.op = 0
      · have AC : Hid _ := act_0 (n := n) (s := s) o0
        rw [o0] at x0
        have mx := X0.out.by4.max
        have mf := X0.out.by4.fits
        have mi : (m : Int) ≤ 9223372036854775807 := by unfold maxLen at mx; omega
        by_cases big : 200 < m
        · have big' : (200 : Int) < (m : Int) := by omega
          go_wp2
          go_ret
          exact ⟨rfl, nextB T.out.i.b (allocB wr _)⟩
        · have big' : ¬ (200 : Int) < (m : Int) := by omega
          go_wp2_with fail
          obtain ⟨W0, hW0⟩ : ∃ W0, wr.alloc (.cells #[.int .i64 0, .int .i64 x.sec, .int .i64 x.n, .int .i64 x.how, .slice a' m c] 35) = W0 := ⟨_, rfl⟩
          have T1 : Hid (Both w p q p' q' n s W0) := by show Both w p q p' q' n s W0; rw [← hW0]; exact T.out.below (allocB wr _)
          have b1 : W0.cell? ⟨wr.heap.size, 1, none⟩ = some (.int .i64 x.sec) := by rw [← hW0, cell_of_row _ _ _ _ _ _ (heap_alloc_last wr _)]; rfl
          have b4 : W0.cell? ⟨wr.heap.size, 4, none⟩ = some (.slice a' m c) := by rw [← hW0, cell_of_row _ _ _ _ _ _ (heap_alloc_last wr _)]; rfl
          have BN : Hid (wr.heap.size < W0.heap.size ∧ wr.heap.size ≠ p ∧ wr.heap.size ≠ q ∧ wr.heap.size ≠ p' ∧ wr.heap.size ≠ q') := by
            have := T.out.i.d.ltp
            have := T.out.i.d.ltq
            have := T.out.k.ltp
            have := T.out.k.ltq
            exact ⟨by rw [← hW0]; simp, by omega, by omega, by omega, by omega⟩
          rw [hW0]
          have Y0 : Hid (By W0 a' m c x.b) := X0.out.by4.below T1.out.i.b
          have YN : Hid (0 < m → ∀ z, a' = some z → z.block ≠ p ∧ z.block ≠ q ∧ z.block ≠ p' ∧ z.block ≠ q') := fun hm z hz => by
            have h1 := X0.out.by4.old hm z hz
            have h2 := T.out.i.lp
            have h3 := T.out.i.lq
            have h4 := T.out.lp
            have h5 := T.out.lq
            exact ⟨by omega, by omega, by omega, by omega⟩
          have LB : Hid (x.b.length = m) := Y0.out.len
          have WR : Hid (∀ (W : World) (a1 : Option Addr) (m1 c1 : Nat), Dk W p q n s → By W a1 m1 c1 x.b → (0 < m1 → ∀ z, a1 = some z → z.block ≠ p ∧ z.block ≠ q) → Calls Try.prog 10 #[.pointer (some ⟨p, 0, none⟩), .int .i64 x.sec, .slice a1 m1 c1] W fun e w' => e = .returned (.int .i64 (wE n s x.sec x.b)) ∧ Dk w' p q n (wS n s x.sec x.b) ∧ Gr p q W w') := fun W a1 m1 c1 h1 h2 h3 => Write_any p q n s x.sec a1 m1 c1 x.b W h1 h2 h3 (by have := WL.out; omega)
          have KW : Hid (∀ W : World, Kk W p' q' n s → Calls Try.prog 12 #[.pointer (some ⟨p', 0, none⟩), .int .i64 x.sec, .string (strOfNums x.b)] W fun e w' => e = .returned (.int .i64 (wE n s x.sec x.b)) ∧ Kk w' p' q' n (wS n s x.sec x.b) ∧ Gr p' q' W w') := fun W h1 => KWrite_any p' q' n s x.sec x.b W h1 Y0.out.ok (by have := LB.out; omega) (by have := WL.out; omega)
          have SX : Hid (∀ W : World, Ap4 p q p' q' W0 W → W.cell? ⟨wr.heap.size, 1, none⟩ = some (.int .i64 x.sec) ∧ W.cell? ⟨wr.heap.size, 4, none⟩ = some (.slice a' m c) ∧ (convert 27 9 (.slice a' m c)).run Try.prog W = .ok (.string (strOfNums x.b)) W) := fun W hW =>
            ⟨(hW.cell BN.out.1 BN.out.2.1 BN.out.2.2.1 BN.out.2.2.2.1 BN.out.2.2.2.2).trans b1, (hW.cell BN.out.1 BN.out.2.1 BN.out.2.2.1 BN.out.2.2.2.1 BN.out.2.2.2.2).trans b4, (hW.by Y0.out YN.out).str⟩
          have S0 := SX.out W0.drew (Ap4.of_below (Below.refl _ _).drew)
          have S1 := SX.out (W0.alloc (.cells #[] 5)).drew (Ap4.of_below (allocB W0 _).drew)
          have YA : Hid (By (W0.alloc (.cells #[] 5)).drew a' m c x.b) := Y0.out.below (allocB W0 _).drew
          have OE : Hid (Own (W0.alloc (.cells #[] 5)).drew W0.heap.size (.slice (some ⟨W0.heap.size, 0, none⟩) 0 0) []) := (own_empty W0).below (Below.refl _ _).drew
          generalize strOfNums x.b = t at *
          generalize wE n s x.sec x.b = y at *
          generalize wS n s x.sec x.b = s2 at *
          generalize wr.heap.size = B at *
          clear hW0 T mx x0 x1 x2 x3 x4 X0 BN
          go_region_held3 (fun W => W.cell? ⟨B, 1, none⟩ = some (.int .i64 x.sec) ∧ W.cell? ⟨B, 4, none⟩ = some (.slice a' m c) ∧ (convert 27 9 (.slice a' m c)).run Try.prog W = .ok (.string t) W) (with_reducible assumption) (first | (refine step_append_by (by rfl) (.tmp 76) (.tmp 78) (by rfl) W0.heap.size (.slice (some ⟨W0.heap.size, 0, none⟩) 0 0) [] (by rfl) OE.out a' m c x.b (by rfl) YA.out (by simp; omega) (by simp) ?_; intro v1 w1 o1 g1; rw [List.nil_append] at o1; obtain ⟨a1, c1, rfl, y1, s1, -⟩ := o1.by; have B1 : Hid (Below W0.heap.size W0 w1) := ((allocB W0 _).drew).grown g1 (by simp) (fun k hk => ((own_empty W0).row.lt k hk).1); have SS1 := SX.out w1 (Ap4.of_below B1.out); have Y1 : Hid _ := y1; have Z1 : Hid _ := s1; clear o1 g1 y1 s1) | (go_at_call 10; refine Calls.mono (WR.out w1 a1 x.b.length c1 (T1.out.below B1.out).i.d Y1.out (fun _ z hz => by have h1 := (Z1.out z hz).1; have h2 := T1.out.i.d.ltp; have h3 := T1.out.i.d.ltq; exact ⟨by omega, by omega⟩)) ?_; rintro e w2 ⟨rfl, d2, g2⟩; have G2 : Hid _ := g2; have D2 : Hid _ := d2; have SS2 := SX.out w2 (Ap4.gr (Ap4.of_below B1.out) g2); clear d2 g2) | (go_at_call 12; refine Calls.mono (KW.out w2 ((T1.out.below B1.out).kk G2.out)) ?_; rintro e w3 ⟨rfl, k3, g3⟩; have SS3 := SX.out w3 (Ap4.gr' (Ap4.gr (Ap4.of_below B1.out) G2.out) g3); have N3 : Hid _ := (T1.out.below B1.out).step D2.out G2.out k3 g3; clear k3 g3))
          clear SS1 SS2 SS3 S0 S1 SX WR KW Y0 YA OE
          go_wp2_with fail
          have N : Hid _ := N3.out
          have QP : Hid _ := qPower N.out
          have QW : Hid _ := qWrites N.out
          have QL : Hid _ := qLives N.out
          have k1 := N.out.k.c1
          have k4 := N.out.k.c4
          have k5 := N.out.k.c5
          have n1 := nn s2.on
          go_wp2_with fail
          go_quiet (first | (go_at_call 18; exact Calls.quiet_of_same (QP.out _)) | (go_at_call 19; exact Calls.quiet_of_same (QW.out _)) | (go_at_call 20; exact Calls.quiet_of_same (QL.out _)))
          go_wp2
          go_roundg (len - (k + 1))
          case measure => omega
          case rel => exact ⟨k + 1, p, q, by omega, rfl, rfl, by go_num, by rw [RS.out, AC.out]; exact Both.drewN N.out _⟩
      · have m0 : (x.op == 0) = false := beq_eq_false_iff_ne.2 o0
        by_cases o1 : x.op = 1
        · have AC : Hid _ := act_no (n := n) (s := s) o0 (by omega) (by omega)
          rw [o1] at x0
          clear m0
          by_cases hh : has n x.sec = true
          · have hin : 0 ≤ x.sec ∧ x.sec < (n : Int) := of_decide_eq_true hh
            obtain ⟨j, hj⟩ : ∃ j : Nat, x.sec = j := ⟨x.sec.toNat, by omega⟩
            rw [hj] at x1 hin hh
            have JN : Hid (j < n) := by show j < n; omega
            have j0 : ¬ (j : Int) < 0 := by omega
            have jn : (j : Int) < (n : Int) := by omega
            have jn' : ¬ (n : Int) ≤ (j : Int) := by omega
            clear hin hj
            by_cases on : s.on = true
            · have ON : Hid (s.on = true) := on
              clear on hh
              go_wp2_with fail
              refine Calls.mono (Read_yes p q n s j _ (T.out.i.d.below (allocB wr _)) JN.out ON.out) ?_
              rintro e w2 ⟨rfl, hw2⟩
              have N2 : Hid (Both w p q p' q' n s w2) := by
                show Both w p q p' q' n s w2
                rw [← hw2]
                exact (T.out.below (allocB wr _)).below (allocB _ _)
              have y2 := (read_facts (T.out.i.below (allocB wr _)) hw2 ⟨T.out.i.d.ok.len j, T.out.i.d.ok.bys j⟩).2.1
              have b1 : w2.cell? ⟨wr.heap.size, 1, none⟩ = some (.int .i64 (j : Nat)) := box_cell (cs := #[.int .i64 1, .int .i64 (j : Nat), .int .i64 x.n, .int .i64 x.how, .slice a' m c]) (t := 35) T.out (by rw [← hw2]; exact Gr.alloc _ _ _ _) 1
              have st : ∀ k, (convert 27 9 (.slice (some ⟨(wr.alloc (.cells #[.int .i64 1, .int .i64 (j : Nat), .int .i64 x.n, .int .i64 x.how, .slice a' m c] 35)).heap.size, 0, none⟩) 64 64)).run Try.prog (w2.drewN k) = .ok (.string (strOfNums (s.sec j))) (w2.drewN k) := fun k => (y2.kept (w' := w2.drewN k) (fun _ _ _ => rfl)).str
              simp only [World.size_alloc] at st
              have l1 : w2.cell? ⟨p', 1, none⟩ = some (.bool false) := by have := N2.out.k.c1; rw [ON.out] at this; exact this
              obtain ⟨cq, l0, hcq, -⟩ := N2.out.k.c0
              have l2 := N2.out.k.row j JN.out
              generalize strOfNums (s.sec j) = t at *
              clear hw2 y2
              go_wp2_with fail
              go_quiet (fail)
              clear l1 l2 l0 st b1
              have N : Hid _ := Both.drewN N2.out nq
              generalize w2.drewN nq = w9 at *
              have QP : Hid _ := qPower N.out
              have QW : Hid _ := qWrites N.out
              have QL : Hid _ := qLives N.out
              have k1 := N.out.k.c1
              have k4 := N.out.k.c4
              have k5 := N.out.k.c5
              have n1 := nn s.on
              go_wp2_with fail
              go_quiet (first | (go_at_call 18; exact Calls.quiet_of_same (QP.out _)) | (go_at_call 19; exact Calls.quiet_of_same (QW.out _)) | (go_at_call 20; exact Calls.quiet_of_same (QL.out _)))
              go_wp2
              go_roundg (len - (k + 1))
              case measure => omega
              case rel => exact ⟨k + 1, p, q, by omega, rfl, rfl, by go_num, by rw [RS.out, AC.out]; exact Both.drewN N.out _⟩
            · have off : s.on = false := by simpa using on
              have OF : Hid (s.on = false) := off
              have RE : Hid (rE n s (j : Int) = 4) := rE_off hh off
              have l1 : wr.cell? ⟨p', 1, none⟩ = some (.bool true) := by have := T.out.k.c1; rw [off] at this; exact this
              have kp := T.out.k.ltp
              clear on off hh
              go_wp2_with fail
              refine Calls.mono (Read_no p q n s (j : Int) _ (T.out.i.d.below (allocB wr _)) (Or.inr OF.out)) ?_
              rw [RE.out]
              rintro e w2 ⟨rfl, rfl⟩
              go_wp2_with fail
              go_quiet (fail)
              clear l1
              have N : Hid _ := Both.drewN (T.out.below (allocB wr (.cells #[.int .i64 1, .int .i64 (j : Nat), .int .i64 x.n, .int .i64 x.how, .slice a' m c] 35))) nq
              generalize (wr.alloc (.cells #[.int .i64 1, .int .i64 (j : Nat), .int .i64 x.n, .int .i64 x.how, .slice a' m c] 35)).drewN nq = w9 at *
              have QP : Hid _ := qPower N.out
              have QW : Hid _ := qWrites N.out
              have QL : Hid _ := qLives N.out
              have k1 := N.out.k.c1
              have k4 := N.out.k.c4
              have k5 := N.out.k.c5
              have n1 := nn s.on
              go_wp2_with fail
              go_quiet (first | (go_at_call 18; exact Calls.quiet_of_same (QP.out _)) | (go_at_call 19; exact Calls.quiet_of_same (QW.out _)) | (go_at_call 20; exact Calls.quiet_of_same (QL.out _)))
              go_wp2
              go_roundg (len - (k + 1))
              case measure => omega
              case rel => exact ⟨k + 1, p, q, by omega, rfl, rfl, by go_num, by rw [RS.out, AC.out]; exact Both.drewN N.out _⟩
          · have RE : Hid (rE n s x.sec = 1) := rE_no (by simpa using hh)
            have HF : Hid (has n x.sec = false) := by show has n x.sec = false; simpa using hh
            by_cases i0 : x.sec < 0
            · clear hh
              go_wp2_with fail
              refine Calls.mono (Read_no p q n s x.sec _ (T.out.i.d.below (allocB wr _)) (Or.inl HF.out)) ?_
              rw [RE.out]
              rintro e w2 ⟨rfl, rfl⟩
              go_wp2_with fail
              go_quiet (fail)
              have N : Hid _ := Both.drewN (T.out.below (allocB wr (.cells #[.int .i64 1, .int .i64 x.sec, .int .i64 x.n, .int .i64 x.how, .slice a' m c] 35))) nq
              generalize (wr.alloc (.cells #[.int .i64 1, .int .i64 x.sec, .int .i64 x.n, .int .i64 x.how, .slice a' m c] 35)).drewN nq = w9 at *
              have QP : Hid _ := qPower N.out
              have QW : Hid _ := qWrites N.out
              have QL : Hid _ := qLives N.out
              have k1 := N.out.k.c1
              have k4 := N.out.k.c4
              have k5 := N.out.k.c5
              have n1 := nn s.on
              go_wp2_with fail
              go_quiet (first | (go_at_call 18; exact Calls.quiet_of_same (QP.out _)) | (go_at_call 19; exact Calls.quiet_of_same (QW.out _)) | (go_at_call 20; exact Calls.quiet_of_same (QL.out _)))
              go_wp2
              go_roundg (len - (k + 1))
              case measure => omega
              case rel => exact ⟨k + 1, p, q, by omega, rfl, rfl, by go_num, by rw [RS.out, AC.out]; exact Both.drewN N.out _⟩
            · have i1 : (n : Int) ≤ x.sec := by
                rcases Int.lt_or_le x.sec (n : Int) with y | y
                · exact absurd (decide_eq_true ⟨by omega, y⟩) hh
                · exact y
              clear hh
              go_wp2_with fail
              refine Calls.mono (Read_no p q n s x.sec _ (T.out.i.d.below (allocB wr _)) (Or.inl HF.out)) ?_
              rw [RE.out]
              rintro e w2 ⟨rfl, rfl⟩
              go_wp2_with fail
              go_quiet (fail)
              have N : Hid _ := Both.drewN (T.out.below (allocB wr (.cells #[.int .i64 1, .int .i64 x.sec, .int .i64 x.n, .int .i64 x.how, .slice a' m c] 35))) nq
              generalize (wr.alloc (.cells #[.int .i64 1, .int .i64 x.sec, .int .i64 x.n, .int .i64 x.how, .slice a' m c] 35)).drewN nq = w9 at *
              have QP : Hid _ := qPower N.out
              have QW : Hid _ := qWrites N.out
              have QL : Hid _ := qLives N.out
              have k1 := N.out.k.c1
              have k4 := N.out.k.c4
              have k5 := N.out.k.c5
              have n1 := nn s.on
              go_wp2_with fail
              go_quiet (first | (go_at_call 18; exact Calls.quiet_of_same (QP.out _)) | (go_at_call 19; exact Calls.quiet_of_same (QW.out _)) | (go_at_call 20; exact Calls.quiet_of_same (QL.out _)))
              go_wp2
              go_roundg (len - (k + 1))
              case measure => omega
              case rel => exact ⟨k + 1, p, q, by omega, rfl, rfl, by go_num, by rw [RS.out, AC.out]; exact Both.drewN N.out _⟩
        · have m1 : (x.op == 1) = false := beq_eq_false_iff_ne.2 o1
          by_cases o2 : x.op = 2
          · have AC : Hid _ := act_2 (n := n) (s := s) o2
            rw [o2] at x0
            clear m0 m1
            go_wp2_with (first | (go_at_call 13; refine Calls.mono (Cut_any p q n s x.n x.how _ (T.out.i.d.below (allocB wr _)) nm) ?_; rintro e w2 ⟨rfl, d2, g2⟩; have BX : Hid _ := (T.out.below (allocB wr _)).kk g2; have b2 : w2.cell? ⟨wr.heap.size, 2, none⟩ = some (.int .i64 x.n) := box_cell T.out g2 2; have b3 : w2.cell? ⟨wr.heap.size, 3, none⟩ = some (.int .i64 x.how) := box_cell T.out g2 3) | (go_at_call 14; refine Calls.mono (Arm_any p' q' n s x.n x.how _ BX.out nm) ?_; rintro e w3 ⟨rfl, k3, g3⟩))
            have N : Hid _ := (T.out.below (allocB wr _)).step d2 g2 k3 g3
            have QP : Hid _ := qPower N.out
            have QW : Hid _ := qWrites N.out
            have QL : Hid _ := qLives N.out
            have k1 := N.out.k.c1
            have k4 := N.out.k.c4
            have k5 := N.out.k.c5
            have n1 := nn (s.cutTo x.n (odd x.how)).on
            go_wp2_with fail
            go_quiet (first | (go_at_call 18; exact Calls.quiet_of_same (QP.out _)) | (go_at_call 19; exact Calls.quiet_of_same (QW.out _)) | (go_at_call 20; exact Calls.quiet_of_same (QL.out _)))
            go_wp2
            go_roundg (len - (k + 1))
            case measure => omega
            case rel => exact ⟨k + 1, p, q, by omega, rfl, rfl, by go_num, by rw [RS.out, AC.out]; exact Both.drewN N.out _⟩
          · have m2 : (x.op == 2) = false := beq_eq_false_iff_ne.2 o2
            by_cases o3 : x.op = 3
            · have AC : Hid _ := act_3 (n := n) (s := s) o3
              rw [o3] at x0
              clear m0 m1 m2
              go_wp2_with (first | (go_at_call 15; refine Calls.mono (On_any p q n s _ (T.out.i.d.below (allocB wr _)) (by have := WL.out; omega)) ?_; rintro e w2 ⟨rfl, d2, g2⟩; have BX : Hid _ := (T.out.below (allocB wr _)).kk g2) | (go_at_call 16; refine Calls.mono (KOn_any p' q' n s _ BX.out (by have := WL.out; omega)) ?_; rintro e w3 ⟨rfl, k3, g3⟩))
              have N : Hid _ := (T.out.below (allocB wr _)).step d2 g2 k3 g3
              have QP : Hid _ := qPower N.out
              have QW : Hid _ := qWrites N.out
              have QL : Hid _ := qLives N.out
              have k1 := N.out.k.c1
              have k4 := N.out.k.c4
              have k5 := N.out.k.c5
              have n1 := nn s.onAgain.on
              go_wp2_with fail
              go_quiet (first | (go_at_call 18; exact Calls.quiet_of_same (QP.out _)) | (go_at_call 19; exact Calls.quiet_of_same (QW.out _)) | (go_at_call 20; exact Calls.quiet_of_same (QL.out _)))
              go_wp2
              go_roundg (len - (k + 1))
              case measure => omega
              case rel => exact ⟨k + 1, p, q, by omega, rfl, rfl, by go_num, by rw [RS.out, AC.out]; exact Both.drewN N.out _⟩
            · have m3 : (x.op == 3) = false := beq_eq_false_iff_ne.2 o3
              have AC : Hid _ := act_no (n := n) (s := s) o0 o2 o3
              have kc := fun (w : World) (C : Array Value) (n c : Nat) => Lib.run_convert_bytes_const (P := Try.prog) w 27 5 C n c Try.underlying27 Try.underlying5
              go_wp2_with fail
              refine Calls.mono (Copy_any p q n s _ (T.out.i.d.below (allocB wr _)) (by omega)) ?_
              rintro e w2 ⟨pc, qc, rfl, d2, l1, l2, b2⟩
              have T2 : Hid _ := (T.out.below (allocB wr _)).below b2
              have D2 : Hid _ := d2
              have L2 : Hid _ := And.intro l1 l2
              have B2 : Hid _ := b2
              clear d2 l1 l2 b2
              go_wp2_with fail
              refine Calls.mono (Write_any p q n s 0 _ 6 6 [115, 112, 111, 105, 108, 116] _ (T2.out.i.d.below (allocB w2 (.cells (vals [115, 112, 111, 105, 108, 116]).toArray 5 (6, 7)))) (by_const w2 [115, 112, 111, 105, 108, 116] (fun x hx => by simp at hx; omega) (by decide) (6, 7) 5) (fun _ y hy => by have := T2.out.i.d.ltp; have := T2.out.i.d.ltq; simp at hy; subst hy; exact ⟨by show w2.heap.size ≠ p; omega, by show w2.heap.size ≠ q; omega⟩) (by have := WL.out; omega)) ?_
              rintro e w3 ⟨rfl, d3, g3⟩
              have BB : Hid _ := Both.copy (T.out.below (allocB wr _)) D2.out L2.out.1 L2.out.2 B2.out (Gr.trans (Gr.alloc p q w2 _) g3)
              generalize wE n s 0 [115, 112, 111, 105, 108, 116] = y at *
              clear d3 g3 T2 D2 L2 B2
              have N : Hid _ := BB.out
              have QP : Hid _ := qPower N.out
              have QW : Hid _ := qWrites N.out
              have QL : Hid _ := qLives N.out
              have k1 := N.out.k.c1
              have k4 := N.out.k.c4
              have k5 := N.out.k.c5
              have n1 := nn s.on
              go_wp2_with fail
              go_quiet (first | (go_at_call 18; exact Calls.quiet_of_same (QP.out _)) | (go_at_call 19; exact Calls.quiet_of_same (QW.out _)) | (go_at_call 20; exact Calls.quiet_of_same (QL.out _)))
              go_wp2
              go_roundg (len - (k + 1))
              case measure => omega
              case rel => exact ⟨k + 1, pc, qc, by omega, rfl, rfl, by go_num, by rw [RS.out, AC.out]; exact Both.drewN N.out _⟩
    · obtain rfl : len = k := by omega
      go_wp2
      go_ret
      exact ⟨rfl, T.out.i.b⟩

theorem walk (w : World) (n : Int) (hn : (Lit.int .i64 n).wf = true) (a : Option Addr) (len cap : Nat) (f : Nat → Ac) (hf : Acts w a len cap f) : Calls Try.prog 4 #[.int .i64 n, .slice a len cap] w fun e w' => e = .returned (.bool true) ∧ Below w.heap.size w w' := by
  by_cases h : n < 1 ∨ 4096 < n
  · exact walk_no w n a len cap h
  · obtain ⟨N, rfl⟩ : ∃ N : Nat, n = N := ⟨n.toNat, by omega⟩
    by_cases h1 : 100 < len ∨ 64 < N
    · exact walk_big w N a len cap (by omega) (by omega) h1
    · exact walk_main w N a len cap f hf (by omega) (by omega) (by omega)


set_option maxRecDepth 100000 in
theorem lifted (os : Os) (started : os.Started) (H : Type) (enc : TypeId × Value → H) :
    ReturnsInHanded {} Try.checked os 4 .any (Rows.diskPlaysSpec.pre6 enc Try.prog Try.f4 Rows.diskPlaysRow.domain false) (Rows.diskPlaysSpec.post enc Try.prog Try.f4 false true false false) := by
  refine returnsInHanded_of_change (C := Try.checked) own started (by kernel_rfl) Try.func4
    (ChangeSpec.witness6 (enc := enc) (C := Try.checked) false ⟨#[], #[.int .i64 0, .slice none 0 0], []⟩ 8 (by kernel_rfl) (by kernel_rfl) (by kernel_rfl) (by kernel_rfl)) ?_
  intro W base args ds gs before hval0 hW hcnd _
  have hval : ∀ (j : Nat) t v, Try.f4.params[j]? = some t → args[j]? = some v → Value.okWide Try.prog W .any base t v := hval0
  have hW' := hW
  obtain ⟨p, q, hA0, hV, rfl, hfz, hnd⟩ := hW
  have hA : DataW.TrodAll enc Try.prog W 0 (fun _ => true) true Try.f4.params.toList args.toList ds p := hA0
  rw [Try.params4] at hA hval
  obtain ⟨v0, vs0, d0, ds0, p0, q0, hargs, rfl, rfl, h0, r0⟩ := trodAll_cons hA
  obtain ⟨v1, vs1, d1, ds1, p1, q1, rfl, rfl, rfl, h1, r1⟩ := trodAll_cons r0
  obtain ⟨rfl, rfl, rfl⟩ := trodAll_nil r1
  obtain rfl : args = #[v0, v1] := by cases args; simp_all
  obtain ⟨rfl, rfl⟩ := trodVars_none hV
  obtain ⟨a0, rfl, rfl, rfl, w0⟩ := open_int Try.underlying3 (hval 0 3 v0 rfl rfl) h0
  obtain ⟨a1, len1, cap1, rfl⟩ := okWide_slice Try.underlying31 (hval 1 31 v1 rfl rfl)
  have k1 := h1
  have lt1 : ∀ x ∈ p1, x.block < W.heap.size := by obtain ⟨m, hm⟩ := k1; exact DataW.trod_lt m _ _ _ hm
  obtain ⟨z1, w1⟩ : ∃ zs, Acts W a1 len1 cap1 zs := by
    obtain ⟨fuel, hf⟩ := h1
    exact acts_of hf
  clear hA0 hval0
  refine (walk W a0 w0 a1 len1 cap1 z1 w1).mono fun e W' ⟨he, bel⟩ => ?_
  subst he
  exact ⟨_, rfl, _, _, _, [], _, [], hW', trodAll_mk1 (shut_bool Try.underlying4 _), (trodAll_cons_mk (shut_int Try.underlying3 w0) (trodAll_cons_mk (Below.trod laidOut (by kernel_rfl) (of_decide_eq_true (by kernel_rfl)) k1 bel lt1) trodAll_mk0)), rfl, bel.frame _, fun h => by cases h⟩

theorem over : Rows.diskPlaysRow.holds Try.pinned (OpenSpec.ofChange Rows.diskPlaysSpec) :=
  OpenClaim.holds_of_wide 4 Try.f4 rfl rfl rfl rfl rfl rfl rfl ⟨rfl, rfl, rfl, rfl, rfl⟩ rfl rfl rfl rfl rfl (by kernel_rfl) Try.func4 (by kernel_rfl)
    (of_decide_eq_true (by kernel_rfl)) (by unfold Func.isWrapper; first | (rw [if_pos (by decide +kernel)]; kernel_rfl) | (rw [if_neg (by decide +kernel)]; exact ⟨rfl, rfl⟩))
    (fun os started H enc _ => lifted os started H enc)

end Go.Proofs.Ytidfgianbahjcaa.diskPlays
namespace Go.Proofs.Ytidfgianbahjcaa

theorem DiskPlays_holds : Rows.DiskPlaysSaid := diskPlays.over

end Go.Proofs.Ytidfgianbahjcaa
