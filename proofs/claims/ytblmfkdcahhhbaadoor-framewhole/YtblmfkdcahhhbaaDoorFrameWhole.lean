/- Proved: the law FrameWhole of package publicanlaw5 returns true for every row of rows of bytes, any two rows of bytes and any two numbers, whatever memory it starts in, on every schedule; the table of package pack holds what the program's text lays (the card ties it to that text). -/
import Derived.Test.YtblmfkdcahhhbaaDoorCards
import Derived.Test.YtblmfkdcahhhbaaDoorTie
import Derived.Test.YtblmfkdcahhhbaaDoorJ5
namespace Go.Proofs.YtblmfkdcahhhbaaDoor.frameWhole
open Go.ChangeShapes Go.WideShapes Go.ChangeAt Go.RowKit
set_option linter.unusedVariables false
set_option linter.unusedSimpArgs false

set_option maxRecDepth 100000 in
set_option maxHeartbeats 4000000 in
theorem walk1 (w : World) (T : Tab w) (a : Option Addr) (m c : Nat) (ab : Option Addr) (mb cb : Nat) (n how : Int) (am : Option Addr) (mm cm : Nat) (h1 : 6 < m) : Calls Tryd.prog 5 #[.slice a m c, .slice ab mb cb, .int .i64 n, .int .i64 how, .slice am mm cm] w fun e w' => e = .returned (.bool true) ∧ Below w.heap.size w w' := by
  have TT : Hid (Tab w) := T
  have h1' : (6 : Int) < (m : Int) := by omega
  clear T
  go_enter Tryd.func5, Tryd.ntmps5
  go_wp2_with (go_at_call 7; refine (awake_any w TT.out).mono ?_; rintro e w1 ⟨rfl, b1⟩)
  go_ret
  exact ⟨rfl, b1⟩
set_option maxRecDepth 100000 in
set_option maxHeartbeats 4000000 in
theorem walk2 (w : World) (T : Tab w) (a : Option Addr) (m c : Nat) (ab : Option Addr) (mb cb : Nat) (n how : Int) (am : Option Addr) (mm cm : Nat) (h1 : m ≤ 6) (h2 : 300 < mb) : Calls Tryd.prog 5 #[.slice a m c, .slice ab mb cb, .int .i64 n, .int .i64 how, .slice am mm cm] w fun e w' => e = .returned (.bool true) ∧ Below w.heap.size w w' := by
  have TT : Hid (Tab w) := T
  have h1' : ¬ (6 : Int) < (m : Int) := by omega
  have h2' : (300 : Int) < (mb : Int) := by omega
  clear T
  go_enter Tryd.func5, Tryd.ntmps5
  go_wp2_with (go_at_call 7; refine (awake_any w TT.out).mono ?_; rintro e w1 ⟨rfl, b1⟩)
  go_ret
  exact ⟨rfl, b1⟩
set_option maxRecDepth 100000 in
set_option maxHeartbeats 4000000 in
theorem walk3 (w : World) (T : Tab w) (a : Option Addr) (m c : Nat) (ab : Option Addr) (mb cb : Nat) (n how : Int) (am : Option Addr) (mm cm : Nat) (h1 : m ≤ 6) (h2 : mb ≤ 300) (h3 : n < 1) : Calls Tryd.prog 5 #[.slice a m c, .slice ab mb cb, .int .i64 n, .int .i64 how, .slice am mm cm] w fun e w' => e = .returned (.bool true) ∧ Below w.heap.size w w' := by
  have TT : Hid (Tab w) := T
  have h1' : ¬ (6 : Int) < (m : Int) := by omega
  have h2' : ¬ (300 : Int) < (mb : Int) := by omega
  clear T
  go_enter Tryd.func5, Tryd.ntmps5
  go_wp2_with (go_at_call 7; refine (awake_any w TT.out).mono ?_; rintro e w1 ⟨rfl, b1⟩)
  go_ret
  exact ⟨rfl, b1⟩
set_option maxRecDepth 100000 in
set_option maxHeartbeats 4000000 in
theorem walk4 (w : World) (T : Tab w) (a : Option Addr) (m c : Nat) (ab : Option Addr) (mb cb : Nat) (n how : Int) (am : Option Addr) (mm cm : Nat) (h1 : m ≤ 6) (h2 : mb ≤ 300) (h3 : 1 ≤ n) (h4 : 10 < n) : Calls Tryd.prog 5 #[.slice a m c, .slice ab mb cb, .int .i64 n, .int .i64 how, .slice am mm cm] w fun e w' => e = .returned (.bool true) ∧ Below w.heap.size w w' := by
  have TT : Hid (Tab w) := T
  have h1' : ¬ (6 : Int) < (m : Int) := by omega
  have h2' : ¬ (300 : Int) < (mb : Int) := by omega
  have h3' : ¬ n < 1 := by omega
  clear T
  go_enter Tryd.func5, Tryd.ntmps5
  go_wp2_with (go_at_call 7; refine (awake_any w TT.out).mono ?_; rintro e w1 ⟨rfl, b1⟩)
  go_ret
  exact ⟨rfl, b1⟩
set_option maxRecDepth 100000 in
set_option maxHeartbeats 4000000 in
theorem walk5 (w : World) (T : Tab w) (a : Option Addr) (m c : Nat) (ab : Option Addr) (mb cb : Nat) (n how : Int) (am : Option Addr) (mm cm : Nat) (h1 : m ≤ 6) (h2 : mb ≤ 300) (h3 : 1 ≤ n) (h4 : n ≤ 10) (h5 : 300 < mm) : Calls Tryd.prog 5 #[.slice a m c, .slice ab mb cb, .int .i64 n, .int .i64 how, .slice am mm cm] w fun e w' => e = .returned (.bool true) ∧ Below w.heap.size w w' := by
  have TT : Hid (Tab w) := T
  have h1' : ¬ (6 : Int) < (m : Int) := by omega
  have h2' : ¬ (300 : Int) < (mb : Int) := by omega
  have h3' : ¬ n < 1 := by omega
  have h4' : ¬ 10 < n := by omega
  have h5' : (300 : Int) < (mm : Int) := by omega
  clear T
  go_enter Tryd.func5, Tryd.ntmps5
  go_wp2_with (go_at_call 7; refine (awake_any w TT.out).mono ?_; rintro e w1 ⟨rfl, b1⟩)
  go_ret
  exact ⟨rfl, b1⟩

theorem bss_at {w : World} {a : Option Addr} {m c : Nat} {L : List (List Int)} (h : Bss w a m c L) : ∃ lb lo, (0 < m → a = some ⟨lb, lo, none⟩) ∧ ∃ X : Nat → Sv, ∀ i, i < m → w.cell? ⟨lb, lo + i, none⟩ = some (.slice (X i).1 (X i).2.1 (X i).2.2) ∧ By w (X i).1 (X i).2.1 (X i).2.2 (L.getD i []) := by
  obtain ⟨lb, lo, h1, h2⟩ := h.cell
  have key : ∀ i, ∃ x : Sv, i < m → w.cell? ⟨lb, lo + i, none⟩ = some (.slice x.1 x.2.1 x.2.2) ∧ By w x.1 x.2.1 x.2.2 (L.getD i []) := fun i => by
    by_cases hi : i < m
    · obtain ⟨x, k, c, e1, e2⟩ := h2 i hi
      exact ⟨(x, k, c), fun _ => ⟨e1, e2⟩⟩
    · exact ⟨(none, 0, 0), fun h => absurd h hi⟩
  exact ⟨lb, lo, h1, fun i => Classical.choose (key i), fun i hi => Classical.choose_spec (key i) hi⟩
theorem fs_at {L : List (List Int)} {k : Nat} {bb : List Int} {fs' : List Fa} (h : fs' = fsK L k ∨ fs' = fsK L k ++ [⟨used (fsK L k), 2, bb⟩]) (j : Nat) (hj : j < fs'.length) : (j < k → (fs'[j]).kind = 1 ∧ (fs'[j]).pay = L.getD j []) ∧ (k ≤ j → (fs'[j]).kind = 2 ∧ (fs'[j]).pay = bb) := by
  have kl := fsK_len L k
  rcases h with rfl | rfl
  · exact ⟨fun _ => fsK_at hj, fun h => by omega⟩
  · refine ⟨fun h => ?_, fun h => ?_⟩
    · rw [List.getElem_append_left (by omega)]; exact fsK_at _
    · rw [List.getElem_append_right (by omega)]; simp
/-- What the first rounds keep. -/
structure R1 (s : St) (L : List (List Int)) (k : Nat) : Prop where
  wh : Wh s 3 1 (fsK L k)
  on : s.on = true
  lf : s.left = 0
  wr : s.writes ≤ 4 * k
  sm : ∀ j, j < k → (L.getD j []).length ≤ 200
theorem R1.start (L : List (List Int)) : R1 fresh L 0 := ⟨⟨Laid.nil _ _ _, fun j _ => fresh_head j, rfl⟩, rfl, rfl, Nat.le_refl _, fun j hj => by omega⟩
theorem R1.next {s : St} {L : List (List Int)} {k : Nat} (h : R1 s L k) (hk : k < 6) (hl : (L.getD k []).length ≤ 200) : ∃ s', addG 40 s ⟨0, 40, 3, fsK L k, 1⟩ 1 (L.getD k []) = ⟨(used (fsK L k) : Nat), 0, s', ⟨0, 40, 3, fsK L (k + 1), 1⟩⟩ ∧ R1 s' L (k + 1) := by
  have u := fsK_used k h.sm
  have f4 : fsize (L.getD k []).length ≤ 4 := by unfold fsize; omega
  obtain ⟨s', e, wh, on, lf, wr⟩ := h.wh.well 1 (L.getD k []) (by omega) h.on h.lf (by decide) (by decide) (by omega)
  refine ⟨s', e, wh, on, lf, by have := h.wr; omega, fun j hj => ?_⟩
  rcases Nat.lt_or_ge j k with q | q
  · exact h.sm j q
  · obtain rfl : j = k := by omega
    exact hl

set_option maxRecDepth 100000 in
set_option maxHeartbeats 16000000 in
theorem walk_main (w : World) (T : Tab w) (a : Option Addr) (m c : Nat) (L : List (List Int)) (hL : Bss w a m c L) (ab : Option Addr) (mb cb : Nat) (bb : List Int) (hb : By w ab mb cb bb) (n : Nat) (how : Int) (am : Option Addr) (mm cm : Nat) (bm : List Int) (hm : By w am mm cm bm)
    (h1 : m ≤ 6) (h2 : mb ≤ 300) (h3 : 1 ≤ n) (h4 : n ≤ 10) (h5 : mm ≤ 300) : Calls Tryd.prog 5 #[.slice a m c, .slice ab mb cb, .int .i64 (n : Nat), .int .i64 how, .slice am mm cm] w fun e w' => e = .returned (.bool true) ∧ Below w.heap.size w w' := by
  have TT : Hid (Tab w) := T
  obtain ⟨lb, lo, z1, X, z2⟩ := bss_at hL
  have Z1 : Hid _ := z1
  have Z2 : Hid _ := z2
  have YB : Hid _ := hb
  have YM : Hid _ := hm
  have lbb := hb.len
  have lbm := hm.len
  have g1 : ¬ (6 : Int) < (m : Int) := by omega
  have g2 : ¬ (300 : Int) < (mb : Int) := by omega
  have g3 : ¬ (n : Int) < 1 := by omega
  have g4 : ¬ (10 : Int) < (n : Int) := by omega
  have g5 : ¬ (300 : Int) < (mm : Int) := by omega
  clear T hL z1 z2 hb hm
  go_enter Tryd.func5, Tryd.ntmps5
  go_wp2_with fail
  refine (awake_any w TT.out).mono ?_
  rintro e w1 ⟨rfl, b1⟩
  have B1 : Hid _ := b1
  clear b1
  go_wp2_with fail
  refine (New_yes 40 w1 (by decide) (by decide)).mono ?_
  rintro e w2 ⟨rfl, d2, b2⟩
  have I2 : Hid (InvD w (w1.heap.size + 1) w1.heap.size 40 fresh w2) := InvD.new B1.out d2 b2 (by omega) (Nat.le_refl _)
  clear d2 b2 B1
  generalize w1.heap.size + 1 = p at *
  generalize w1.heap.size = q at *
  go_wp2_with fail
  refine (I2.out.openAt TT.out 0 40 (by decide) (by decide) (by decide) rfl (by decide)).mono ?_
  rintro e w3 ⟨pa, rfl, a3, -⟩
  rw [opn_fresh] at a3
  have A3 : Hid _ := a3
  clear a3 I2
  go_wp2_with fail
  refine (A3.out.beginAt 3 (by decide)).mono ?_
  rintro e w4 ⟨rfl, A4'⟩
  have A4 : Hid _ := A4'
  clear A4' A3
  go_wp2_with fail
  go_loopg [15] m (fun g iv wr => ∃ (k : Nat) (s : St), k ≤ m ∧ g = m - k ∧ iv = .int .i64 (k : Nat) ∧ Hid (R1 s L k) ∧ Hid (Ad w wr pa p q 40 s ⟨0, 40, 3, fsK L k, 1⟩))
  case atStart => exact ⟨0, _, Nat.zero_le _, rfl, rfl, R1.start L, A4.out⟩
  case round =>
    obtain ⟨k, s, hk, rfl, rfl, R, A⟩ := hrel
    clear A4
    by_cases qk : k < m
    · have qk' : (k : Int) < (m : Int) := by omega
      obtain rfl := Z1.out (by omega)
      obtain ⟨z3, z4⟩ := Z2.out k qk
      have hlt := World.block_lt_of_cell? _ _ z3
      have e1 : wr.cell? ⟨lb, lo + k, none⟩ = some (.slice (X k).1 (X k).2.1 (X k).2.2) := (A.out.b.cell (p := ⟨lb, lo + k, none⟩) hlt).trans z3
      have zl := z4.len
      have YW : Hid (By wr (X k).1 (X k).2.1 (X k).2.2 (L.getD k [])) := z4.below A.out.b
      generalize X k = x at *
      obtain ⟨xa, xm, xc⟩ := x
      dsimp only at e1 zl YW
      clear z3 z4 hlt
      by_cases q0 : 200 < xm
      · have q0' : (200 : Int) < (xm : Int) := by omega
        go_wp2
        go_ret
        exact ⟨rfl, A.out.b⟩
      · have q0' : ¬ (200 : Int) < (xm : Int) := by omega
        obtain ⟨s', ea, R'⟩ := R.out.next (by omega) (by omega)
        have RR : Hid _ := R'
        have AD : Hid _ := A.out.addAt 1 (by decide) _ _ _ _ YW.out (by have := R.out.wr; omega)
        rw [ea] at AD
        clear ea R' R A YW zl
        go_wp2_with fail
        refine Calls.mono AD.out ?_
        rintro e w7 ⟨rfl, A7'⟩
        have A7 : Hid _ := A7'
        clear A7' AD
        dsimp only
        go_wp2_with fail
        go_roundg (m - (k + 1))
        case measure => omega
        case rel => exact ⟨k + 1, s', qk, rfl, by congr 1, RR.out, A7.out⟩
    · obtain rfl : k = m := by omega
      have u1 := fsK_used k R.out.sm
      have fb : fsize bb.length ≤ 6 := by unfold fsize; omega
      have fm : fsize bm.length ≤ 6 := by unfold fsize; omega
      have wr1 := R.out.wr
      go_wp2_with fail
      refine Calls.mono (Cut_any p q 40 s (n : Nat) how wr A.out.d (by omega)) ?_
      rintro e w5 ⟨rfl, d5, g5⟩
      have A5 : Hid _ := A.out.gr d5 g5
      have wh5 : Wh (s.cutTo (n : Nat) (odd how)) 3 1 (fsK L k) := ⟨R.out.wh.laid, R.out.wh.quiet, R.out.wh.lv⟩
      obtain ⟨x6, e6, s6, fs', ar6, ea, wh6, wr6, ce⟩ := wh5.cut 2 bb (by omega) R.out.on (by show 1 ≤ ((n : Nat) : Int).toNat; omega) (by decide) (by decide) (by omega)
      have AD : Hid _ := A5.out.addAt 2 (by decide) _ _ _ _ (YB.out.below A5.out.b) (by show s.writes ≤ 900000; omega)
      rw [ea] at AD
      have wr6' : s6.writes ≤ 40 := by have : s6.writes ≤ s.writes + fsize bb.length := wr6; omega
      clear d5 g5 A wh5 ea wr6 R
      go_wp2_with fail
      refine Calls.mono AD.out ?_
      rintro e w6 ⟨rfl, A6'⟩
      have A6 : Hid _ := A6'
      clear A6' AD A5
      dsimp only
      go_wp2_with fail
      refine Calls.mono (On_any p q 40 s6 w6 A6.out.d (by rw [wh6.lv]; decide)) ?_
      rintro e w7 ⟨rfl, d7, g7⟩
      have I7 : Hid (InvD w p q 40 s6.onAgain w7) := A6.out.inv.gr d7 g7
      have WH : Hid _ := wh6.onAgain
      have uf : used fs' ≤ 30 := by
        have e2 : used (fsK L k ++ [⟨used (fsK L k), 2, bb⟩]) = used (fsK L k) + fsize bb.length := used_snoc _ _
        rcases ce with ⟨-, rfl⟩ | ⟨-, rfl | rfl⟩ <;> omega
      have OP := WH.out.opn (by decide) (by omega)
      clear d7 g7 A6 wh6
      go_wp2_with fail
      refine (I7.out.openAt TT.out 0 40 (by decide) (by decide) (by decide) rfl (by rw [WH.out.lv]; decide)).mono ?_
      rintro e w8 ⟨po, rfl, a8, -⟩
      rw [OP] at a8
      have A8 : Hid _ := a8
      clear a8 I7 OP
      go_wp2_with fail
      refine Calls.mono A8.out.allAt ?_
      rintro e w9 ⟨⟨a9, c9, rfl, l9⟩, A9', -⟩
      have A9 : Hid _ := A9'
      have L9 : Hid _ := l9
      clear A9' l9 A8
      dsimp only
      have FX : Hid (fs' = fsK L k ∨ fs' = fsK L k ++ [⟨used (fsK L k), 2, bb⟩]) := by
        rcases ce with ⟨-, e⟩ | ⟨-, e | e⟩
        · exact .inr e
        · exact .inl e
        · exact .inr e
      have kl := fsK_len L k
      have M1 : k ≤ fs'.length ∧ fs'.length ≤ k + 1 ∧ (e6 = 0 → fs'.length = k + 1) := by
        rcases ce with ⟨-, rfl⟩ | ⟨h4, rfl | rfl⟩
        · rw [List.length_append, kl]; simp
        · rw [kl]; exact ⟨Nat.le_refl _, Nat.le_succ _, fun h => by omega⟩
        · rw [List.length_append, kl]; simp
      have m1 : ¬ (fs'.length : Int) < (k : Int) := by omega
      have m2 : ¬ (k : Int) + 1 < (fs'.length : Int) := by omega
      go_upto_region 25 with fail
      go_cut [135] from 111 to 135 (fun s wx => s = .bool false ∧ wx = w9)
      case first =>
        by_cases q6 : e6 = 0
        · have m3 : (fs'.length : Int) = (k : Int) + 1 := by have := M1.2.2 q6; omega
          clear ce M1
          subst q6
          go_wp2_with fail
          go_meet
          case rel => exact ⟨by congr 1; exact decide_eq_false (by omega), rfl⟩
        · clear ce M1
          go_wp2_with fail
          go_meet
          case rel => exact ⟨rfl, rfl⟩
      case rest =>
        obtain ⟨rfl, hw⟩ := hcut
        have hw' := hw.symm
        clear hw
        subst hw'
        clear m1 m2 ce
        have ML : fs'.length ≤ 7 := by omega
        have ml : (fs'.length : Int) ≤ 7 := by omega
        have M2 : Hid _ := M1
        have UF : Hid _ := uf
        clear M1
        obtain ⟨g9, hg9, hc9⟩ := L9.out.cell
        have G9 : Hid _ := hg9
        have C9 : Hid _ := hc9
        clear hg9 hc9
        go_wp2_with fail
        go_loopg [22] fs'.length (fun g iv wr => ∃ j : Nat, j ≤ fs'.length ∧ g = fs'.length - j ∧ iv = .int .i64 (j : Nat) ∧ Hid (Ad w wr po p q 40 s6.onAgain ⟨0, 40, if fs'.length = 0 then 0 else 3, fs', 1 + 1⟩) ∧ Hid (Below w9.heap.size w9 wr))
        case atStart => exact ⟨0, Nat.zero_le _, rfl, rfl, A9.out, Below.refl _ _⟩
        case round =>
          obtain ⟨j, hj, rfl, rfl, A, B⟩ := hrel
          by_cases qj : j < fs'.length
          · have qj' : (j : Int) < (fs'.length : Int) := by omega
            obtain rfl := G9.out (by omega)
            have e1 : wr.cell? ⟨g9, j, none⟩ = some (.int .i64 ((fs'[j]).pos : Nat)) := by
              rw [← posI_at qj]
              exact (B.out.cell (p := ⟨g9, j, none⟩) (World.block_lt_of_cell? _ _ (C9.out j qj))).trans (C9.out j qj)
            have lf3 : (if fs'.length = 0 then 0 else 3) = 3 := if_neg (by omega)
            have GT : Hid _ := A.out.getIs j qj rfl (WH.out.got rfl (by decide) (by have := UF.out; omega) qj lf3)
            have FA := fs_at FX.out j qj
            generalize (fs'[j]).pos = ps at *
            generalize (fs'[j]).kind = kj at *
            generalize (fs'[j]).pay = pj at *
            by_cases qk : j < k
            · have qk' : (j : Int) < (k : Int) := by omega
              obtain ⟨rfl, hp1⟩ := FA.1 qk
              have PJ : Hid _ := hp1
              clear hp1
              obtain rfl := Z1.out (by omega)
              obtain ⟨z3, z4⟩ := Z2.out j qk
              have hlt := World.block_lt_of_cell? _ _ z3
              have ZC : Hid _ := z3
              have ZY : Hid _ := z4
              clear z3 z4 FA lf3
              go_wp2_with fail
              refine Calls.mono GT.out ?_
              rintro e w10 ⟨⟨⟨a10, c10, rfl, y10, -⟩, b10⟩, A10'⟩
              have A10 : Hid _ := A10'
              have B10 : Hid (Below w9.heap.size w9 w10) := nextB B.out b10
              have st1 := y10.str
              have e2 : w10.cell? ⟨lb, lo + j, none⟩ = some (.slice (X j).1 (X j).2.1 (X j).2.2) := (A10.out.b.cell (p := ⟨lb, lo + j, none⟩) hlt).trans ZC.out
              have st2 := (ZY.out.below A10.out.b).str
              rw [← PJ.out] at st2
              generalize X j = xj at *
              obtain ⟨xa, xm, xc⟩ := xj
              dsimp only at e2 st1 st2
              dsimp only
              generalize strOfNums pj = sx at *
              generalize pj.length = lj at *
              have hlt2 := Nat.lt_of_lt_of_le hlt A10.out.b.size
              clear A10' b10 y10 GT e1
              go_wp2_with fail
              go_roundg (fs'.length - (j + 1))
              case measure => omega
              case rel => exact ⟨j + 1, qj, rfl, by congr 1, A10.out, B10.out⟩
            · have qk' : ¬ (j : Int) < (k : Int) := by omega
              obtain ⟨rfl, hp1⟩ := FA.2 (by omega)
              have PJ : Hid _ := hp1
              clear FA lf3 hp1
              go_wp2_with fail
              refine Calls.mono GT.out ?_
              rintro e w10 ⟨⟨⟨a10, c10, rfl, y10, -⟩, b10⟩, A10'⟩
              have A10 : Hid _ := A10'
              have B10 : Hid (Below w9.heap.size w9 w10) := nextB B.out b10
              have st1 := y10.str
              have st2 := (YB.out.below A10.out.b).str
              rw [← PJ.out] at st2
              dsimp only at st1
              dsimp only
              generalize strOfNums pj = sx at *
              generalize pj.length = lj at *
              clear A10' b10 y10 GT e1
              go_wp2_with fail
              go_roundg (fs'.length - (j + 1))
              case measure => omega
              case rel => exact ⟨j + 1, qj, rfl, by congr 1, A10.out, B10.out⟩
          · obtain rfl : j = fs'.length := by omega
            go_upto_region 36 with fail
            go_cut [182] from 175 to 182 (fun s wx => s = .bool (decide (k = 0 ∧ fs'.length = 0)) ∧ wx = wr)
            case first =>
              by_cases c1 : k = 0
              · by_cases c2 : fs'.length = 0
                · have c1' : (k : Int) = 0 := by omega
                  have c2' : (fs'.length : Int) = 0 := by omega
                  have DC : Hid (decide (k = 0 ∧ fs'.length = 0) = true) := decide_eq_true ⟨c1, c2⟩
                  clear c1 c2
                  go_wp2_with fail
                  go_meet
                  case rel => exact ⟨by rw [DC.out], rfl⟩
                · have c1' : (k : Int) = 0 := by omega
                  have c2' : ¬ (fs'.length : Int) = 0 := by omega
                  have DC : Hid (decide (k = 0 ∧ fs'.length = 0) = false) := decide_eq_false fun h => c2 h.2
                  have NE : Hid (¬ fs' = []) := fun h => c2 (by rw [h]; rfl)
                  clear c1 c2
                  go_wp2_with fail
                  go_meet
                  case rel => exact ⟨by rw [DC.out]; first | rfl | simp [NE.out] | (trace_state; simp), rfl⟩
              · have c1' : ¬ (k : Int) = 0 := by omega
                have DC : Hid (decide (k = 0 ∧ fs'.length = 0) = false) := decide_eq_false fun h => c1 h.1
                clear c1
                go_wp2_with fail
                go_meet
                case rel => exact ⟨by rw [DC.out], rfl⟩
            case rest =>
            obtain ⟨rfl, hw⟩ := hcut
            have hw' := hw.symm
            clear hw
            subst hw'
            go_upto_if 182 with fail
            go_cut [] from 182 to 184 (fun wx => Hid (Ad w wx po p q 40 s6.onAgain ⟨0, 40, 3, fs', 1 + 1⟩))
            case first =>
              by_cases c : k = 0 ∧ fs'.length = 0
              · have e0 : fs' = [] := List.length_eq_zero_iff.1 c.2
                have BG : Hid _ := (A.out.beginAt 3 (by decide)).mono fun e w' h => (show e = .returned (.tuple #[]) ∧ Hid (Ad w w' po p q 40 s6.onAgain ⟨0, 40, 3, fs', 1 + 1⟩) from ⟨h.1, by rw [e0]; exact h.2⟩)
                rw [decide_eq_true c]
                clear c e0 A
                go_wp2_with fail
                refine Calls.mono BG.out ?_
                rintro e w11 ⟨rfl, A11⟩
                go_wp2_with fail
                go_meet
                case rel => exact A11
              · have A' : Hid (Ad w wr po p q 40 s6.onAgain ⟨0, 40, 3, fs', 1 + 1⟩) := by
                  have h := A.out
                  rw [if_neg (by have := M2.out.1; omega)] at h
                  exact h
                rw [decide_eq_false c]
                clear c A
                go_wp2_with fail
                go_meet
                case rel => exact A'
            case rest =>
              have A12 : Hid _ := hcut.out
              clear hcut A A9
              obtain ⟨s8, ea8, wh8, on8, lf8, wr8⟩ := WH.out.well 9 bm (by omega) rfl rfl (by decide) (by decide) (by have := UF.out; omega)
              have AD : Hid _ := A12.out.addAt 9 (by decide) _ _ _ _ (YM.out.below A12.out.b) (by show s6.writes ≤ 900000; omega)
              rw [ea8] at AD
              have OP8 := wh8.opn (by decide) (by rw [used_snoc]; have := UF.out; show used fs' + fsize bm.length ≤ 40; omega)
              have WH8 : Hid _ := wh8
              have ON8 : Hid _ := on8
              have OP : Hid _ := OP8
              clear ea8 wh8 on8 lf8 wr8 OP8
              go_wp2_with fail
              refine Calls.mono AD.out ?_
              rintro e w13 ⟨rfl, A13'⟩
              have A13 : Hid _ := A13'
              clear A13' AD A12
              dsimp only
              go_wp2_with fail
              refine (A13.out.inv.openAt TT.out 0 40 (by decide) (by decide) (by decide) ON8.out (by rw [WH8.out.lv]; decide)).mono ?_
              rintro e w14 ⟨pc, rfl, a14, -⟩
              rw [OP.out] at a14
              have A14 : Hid _ := a14
              clear a14 A13
              go_wp2_with fail
              refine Calls.mono A14.out.allAt ?_
              rintro e w15 ⟨⟨a15, c15, rfl, -⟩, A15', -⟩
              have A15 : Hid _ := A15'
              clear A15' A14
              dsimp only
              rw [List.length_append, List.length_singleton]
              go_wp2
              go_ret
              exact ⟨rfl, A15.out.b⟩
theorem walk (w : World) (T : Tab w) (a : Option Addr) (m c : Nat) (L : List (List Int)) (hL : Bss w a m c L) (ab : Option Addr) (mb cb : Nat) (bb : List Int) (hb : By w ab mb cb bb) (n : Int) (hn : (Lit.int .i64 n).wf = true) (how : Int) (hh : (Lit.int .i64 how).wf = true) (am : Option Addr) (mm cm : Nat) (bm : List Int) (hm : By w am mm cm bm) : Calls Tryd.prog 5 #[.slice a m c, .slice ab mb cb, .int .i64 n, .int .i64 how, .slice am mm cm] w fun e w' => e = .returned (.bool true) ∧ Below w.heap.size w w' := by
  rcases Nat.lt_or_ge 6 m with q1 | q1
  · exact walk1 w T a m c ab mb cb n how am mm cm q1
  rcases Nat.lt_or_ge 300 mb with q2 | q2
  · exact walk2 w T a m c ab mb cb n how am mm cm q1 q2
  by_cases q3 : n < 1
  · exact walk3 w T a m c ab mb cb n how am mm cm q1 q2 q3
  by_cases q4 : 10 < n
  · exact walk4 w T a m c ab mb cb n how am mm cm q1 q2 (by omega) q4
  rcases Nat.lt_or_ge 300 mm with q5 | q5
  · exact walk5 w T a m c ab mb cb n how am mm cm q1 q2 (by omega) (by omega) q5
  obtain ⟨k, rfl⟩ : ∃ k : Nat, n = (k : Nat) := ⟨n.toNat, by omega⟩
  exact walk_main w T a m c L hL ab mb cb bb hb k how am mm cm bm hm q1 q2 (by omega) (by omega) q5


set_option maxRecDepth 100000 in
theorem contract (H : Type) (enc : TypeId × Value → H) (W : World) (base : Nat) (args : Array Value) (ds gs : List (DataW H)) (before : List MemPlace)
    (hval : ∀ (j : Nat) t v, Tryd.f5.params[j]? = some t → args[j]? = some v → Value.okWide Tryd.prog W .any base t v)
    (hW : DataW.Whole enc Tryd.prog Tryd.f5.params.toList Rows.frameWholeSpec.vars false W args.toList ds gs before) (hL : laidMetH Tryd.prog Rows.frameWholeRow.laid W) :
    Calls Tryd.prog 5 args W fun e W' => ∃ v, e = .returned v ∧ Rows.frameWholeSpec.post enc Tryd.prog Tryd.f5 false true false false W args v W' := by
  have hW' := hW
  obtain ⟨p, q, hA0, hV, rfl, hfz, hnd⟩ := hW
  have hA : DataW.TrodAll enc Tryd.prog W 0 (fun _ => true) true Tryd.f5.params.toList args.toList ds p := hA0
  have hT : Tab W := tab_of hL
  rw [Tryd.params5] at hA hval
  obtain ⟨v0, vs0, d0, ds0, p0, q0, hargs, rfl, rfl, h0, r0⟩ := trodAll_cons hA
  obtain ⟨v1, vs1, d1, ds1, p1, q1, rfl, rfl, rfl, h1, r1⟩ := trodAll_cons r0
  obtain ⟨v2, vs2, d2, ds2, p2, q2, rfl, rfl, rfl, h2, r2⟩ := trodAll_cons r1
  obtain ⟨v3, vs3, d3, ds3, p3, q3, rfl, rfl, rfl, h3, r3⟩ := trodAll_cons r2
  obtain ⟨v4, vs4, d4, ds4, p4, q4, rfl, rfl, rfl, h4, r4⟩ := trodAll_cons r3
  obtain ⟨rfl, rfl, rfl⟩ := trodAll_nil r4
  obtain rfl : args = #[v0, v1, v2, v3, v4] := by cases args; simp_all
  obtain ⟨rfl, rfl⟩ := trodVars_none hV
  obtain ⟨a0, len0, cap0, rfl⟩ := okWide_slice Tryd.underlying57 (hval 0 57 v0 rfl rfl)
  have k0 := h0
  have lt0 : ∀ x ∈ p0, x.block < W.heap.size := by obtain ⟨m, hm⟩ := k0; exact DataW.trod_lt m _ _ _ hm
  obtain ⟨z0, w0⟩ : ∃ zs, Bss W a0 len0 cap0 zs := by
    obtain ⟨fuel, hf⟩ := h0
    exact bss_of hf
  obtain ⟨a1, len1, cap1, rfl⟩ := okWide_slice Tryd.underlying32 (hval 1 32 v1 rfl rfl)
  have k1 := h1
  have lt1 : ∀ x ∈ p1, x.block < W.heap.size := by obtain ⟨m, hm⟩ := k1; exact DataW.trod_lt m _ _ _ hm
  obtain ⟨z1, w1⟩ : ∃ zs, By W a1 len1 cap1 zs := by
    obtain ⟨fuel, hf⟩ := h1
    exact by_of hf
  obtain ⟨a2, rfl, rfl, rfl, w2⟩ := open_int Tryd.underlying3 (hval 2 3 v2 rfl rfl) h2
  obtain ⟨a3, rfl, rfl, rfl, w3⟩ := open_int Tryd.underlying3 (hval 3 3 v3 rfl rfl) h3
  obtain ⟨a4, len4, cap4, rfl⟩ := okWide_slice Tryd.underlying32 (hval 4 32 v4 rfl rfl)
  have k4 := h4
  have lt4 : ∀ x ∈ p4, x.block < W.heap.size := by obtain ⟨m, hm⟩ := k4; exact DataW.trod_lt m _ _ _ hm
  obtain ⟨z4, w4⟩ : ∃ zs, By W a4 len4 cap4 zs := by
    obtain ⟨fuel, hf⟩ := h4
    exact by_of hf
  clear hA0
  refine (walk W hT a0 len0 cap0 z0 w0 a1 len1 cap1 z1 w1 a2 w2 a3 w3 a4 len4 cap4 z4 w4).mono fun e W' ⟨he, bel⟩ => ?_
  subst he
  exact ⟨_, rfl, _, _, _, [], _, [], hW', trodAll_mk1 (shut_bool Tryd.underlying4 _), (trodAll_cons_mk (Below.trod laidOut (by kernel_rfl) (of_decide_eq_true (by kernel_rfl)) k0 bel lt0) (trodAll_cons_mk (Below.trod laidOut (by kernel_rfl) (of_decide_eq_true (by kernel_rfl)) k1 bel lt1) (trodAll_cons_mk (shut_int Tryd.underlying3 w2) (trodAll_cons_mk (shut_int Tryd.underlying3 w3) (trodAll_cons_mk (Below.trod laidOut (by kernel_rfl) (of_decide_eq_true (by kernel_rfl)) k4 bel lt4) trodAll_mk0))))), rfl, bel.frame _, fun h => by cases h⟩

/-- A world for the witness: the table laid. -/
noncomputable def laidWorld (os : Os) : World :=
  { World.holding Tryd.prog os ⟨#[], #[], []⟩ with heap := (World.holding Tryd.prog os ⟨#[], #[], []⟩).heap.modify 0 fun
      | .cells _ t frozen => .cells (tabL.map (Value.int .u32)).toArray t frozen
      | o => o }
theorem laid_met (os : Os) : laidMet Tryd.prog Rows.frameWholeRow.laid ((laidWorld os).forCall (fun _ _ => 0) ⟨#[], #[.slice none 0 0, .slice none 0 0, .int .i64 0, .int .i64 0, .slice none 0 0], []⟩).memory :=
  laidMet_of_run' 8 (by kernel_rfl) (by kernel_rfl)
theorem reads (os : Os) {H : Type} (enc : TypeId × Value → H) : ∃ places, DataW.whole enc Tryd.prog ((laidWorld os).forCall (fun _ _ => 0) ⟨#[], #[.slice none 0 0, .slice none 0 0, .int .i64 0, .int .i64 0, .slice none 0 0], []⟩).memory Tryd.f5.params.toList Rows.frameWholeSpec.vars false (#[.slice none 0 0, .slice none 0 0, .int .i64 0, .int .i64 0, .slice none 0 0] : Array Value).toList 8 = some ([.nil, .nil, .lit (.int .i64 0), .lit (.int .i64 0), .nil], [], places) :=
  ⟨[], by kernel_rfl⟩

set_option maxRecDepth 100000 in
theorem lifted (os : Os) (started : os.Started) (H : Type) (enc : TypeId × Value → H) (F : Stop.Interp) :
    ReturnsInHanded {} Tryd.checked os 5 .any ((OpenSpec.ofChange Rows.frameWholeSpec).preRow enc Tryd.prog Tryd.f5 Rows.frameWholeRow.domain false Rows.frameWholeRow.laid) (((OpenSpec.ofChange Rows.frameWholeSpec).at F).post enc Tryd.prog Tryd.f5 false true false false) := by
  obtain ⟨places, hx⟩ := reads os enc
  refine returnsInHanded_of_row (C := Tryd.checked) (s := OpenSpec.ofChange Rows.frameWholeSpec) own started (by kernel_rfl) Tryd.func5
    (witness_row_at (enc := enc) (C := Tryd.checked) false (laidWorld os) #[.slice none 0 0, .slice none 0 0, .int .i64 0, .int .i64 0, .slice none 0 0] rfl (by kernel_rfl) (by kernel_rfl) (by kernel_rfl)
      (OpenSpec.preRow_of_cond 8 hx (by kernel_rfl) (fun k hk => by cases hk) (by kernel_rfl) (laid_met os))) ?_
  intro W base args ds gs before hval hW _ _ _ hL _ _
  exact contract H enc W base args ds gs before hval hW hL

theorem said : Rows.FrameWholeSaid :=
  OpenClaim.holds_of_cond 5 Tryd.f5 rfl rfl rfl rfl rfl rfl rfl ⟨rfl, rfl, rfl, rfl, rfl⟩ rfl rfl rfl rfl rfl (by kernel_rfl) Tryd.func5 (by kernel_rfl)
    (of_decide_eq_true (by kernel_rfl)) (by unfold Func.isWrapper; first | (rw [if_pos (by decide +kernel)]; kernel_rfl) | (rw [if_neg (by decide +kernel)]; exact ⟨rfl, rfl⟩))
    (fun os started H enc _ F => by rw [OpenClaim.pre_eq_preRow]; exact lifted os started H enc F)

set_option maxRecDepth 100000 in
theorem plain (f : FuncId) (fn : Func) (hf : Tryd.pinned.checked.prog.funcNamed "publican/publicanlaw5.FrameWhole" = some f) (hfn : Tryd.pinned.checked.prog.funcs[f]? = some fn) :
    false = Tryd.pinned.checked.prog.looks [] ∧ ∀ (j : Nat) t, fn.params[j]? = some t → Tryd.pinned.checked.prog.wantsStandIn t = false := by
  obtain rfl : f = 5 := Option.some.inj ((show Tryd.prog.funcNamed "publican/publicanlaw5.FrameWhole" = some 5 by kernel_rfl).symm.trans hf) |>.symm
  obtain rfl : fn = Tryd.f5 := (Option.some.inj (Tryd.func5.symm.trans hfn)).symm
  refine ⟨by kernel_rfl, fun j t ht => ?_⟩
  rw [Tryd.params5] at ht
  have hm : t ∈ [57, 32, 3, 3, 32] := by simpa using Array.mem_of_getElem? ht
  rcases List.mem_cons.1 hm with rfl | hm
  · exact (show Tryd.prog.wantsStandIn 57 = false by kernel_rfl)
  rcases List.mem_cons.1 hm with rfl | hm
  · exact (show Tryd.prog.wantsStandIn 32 = false by kernel_rfl)
  rcases List.mem_cons.1 hm with rfl | hm
  · exact (show Tryd.prog.wantsStandIn 3 = false by kernel_rfl)
  rcases List.mem_cons.1 hm with rfl | hm
  · exact (show Tryd.prog.wantsStandIn 3 = false by kernel_rfl)
  rcases List.mem_cons.1 hm with rfl | hm
  · exact (show Tryd.prog.wantsStandIn 32 = false by kernel_rfl)
  cases hm

theorem card : Rows.FrameWholeCardSaid :=
  Claim7.holds_tied_plain_at .later [] _ _ _ _ said (fun _ h => by cases h) (by kernel_rfl) (fun _ h => by cases h) frameWhole_row_tie rfl ⟨rfl, rfl⟩ (by kernel_rfl) rfl plain (by kernel_rfl)

end Go.Proofs.YtblmfkdcahhhbaaDoor.frameWhole
namespace Go.Proofs.YtblmfkdcahhhbaaDoor

theorem FrameWhole_holds : Rows.FrameWholeCardSaid := frameWhole.card

end Go.Proofs.YtblmfkdcahhhbaaDoor
