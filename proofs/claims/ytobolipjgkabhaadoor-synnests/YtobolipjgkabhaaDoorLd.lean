/- The walk over lex.Cut. -/
import Derived.Test.YtobolipjgkabhaaDoorLf
import Derived.WalkMore
import Derived.Deep.LoopGhost
namespace Go.Proofs.YtobolipjgkabhaaDoor
open Go.RowKit
set_option linter.unusedVariables false
set_option linter.unusedSimpArgs false

theorem hid {p : Prop} (h : p) : Hid p := h
theorem runC_cons {s : ByteArray} {k : Nat} (h : k < s.size) : runC (tl s k) = if (bt s k).toNat = 10 then 0 else runC (tl s (k + 1)) + 1 := by
  rw [tl_cons h]
  rfl
/-- What Cut answers. -/
def CutP (s : ByteArray) (w : World) (e : Ending) (w' : World) : Prop := Below w.heap.size w w' ∧
  match cutF s 0 with
  | (R, none) => ∃ v, e = .returned (.tuple #[v, .int .i64 0, .int .i64 0]) ∧ Rw w' w.heap.size 41 s v R
  | (_, some b) => e = .returned (.tuple #[.slice none 0 0, .int .i64 (b : Nat), .int .i64 7])
theorem cut_long (s : ByteArray) (w : World) (hs : 8192 < s.size) (hs' : s.size < 9000000000000000000) :
    Calls Tryd.prog 8 #[.string s] w fun e w' => e = .returned (.tuple #[.slice none 0 0, .int .i64 0, .int .i64 2]) ∧ w = w' := by
  have h : (8192 : Int) < (s.size : Int) := by omega
  go_enter Tryd.func8, Tryd.ntmps8
  go_wp2
  go_step3
  go_wp2
  rw [Exit.noGoto_ret]
  go_ret3
  exact ⟨rfl, rfl⟩

theorem wd_let {s : ByteArray} {a : Nat} (h : a < s.size) (hc : leB (bt s a).toNat = true) : wd (tl s a) = namW (tl s a) := by
  rw [tl_cons h]
  exact if_pos hc
theorem wd_mon {s : ByteArray} {a : Nat} (h : a < s.size) (hc : leB (bt s a).toNat = false) (hd : ((bt s a).toNat : Int) = 36) : wd (tl s a) = monW (tl s a) := by
  rw [tl_cons h]
  exact (if_neg (by show ¬ leB (bt s a).toNat = true; rw [hc]; decide)).trans (if_pos (by omega))
theorem wd_num {s : ByteArray} {a : Nat} (h : a < s.size) (hc : leB (bt s a).toNat = false) (hd : ((bt s a).toNat : Int) ≠ 36) (he : dgB (bt s a).toNat = true) : wd (tl s a) = numW (tl s a) := by
  rw [tl_cons h]
  exact (if_neg (by show ¬ leB (bt s a).toNat = true; rw [hc]; decide)).trans ((if_neg (by omega)).trans (if_pos he))
theorem wd_sgn {s : ByteArray} {a : Nat} (h : a < s.size) (hc : leB (bt s a).toNat = false) (hd : ((bt s a).toNat : Int) ≠ 36) (he : dgB (bt s a).toNat = false) : wd (tl s a) = sgnW (tl s a) := by
  rw [tl_cons h]
  exact (if_neg (by show ¬ leB (bt s a).toNat = true; rw [hc]; decide)).trans ((if_neg (by omega)).trans (if_neg (by show ¬ dgB (bt s a).toNat = true; rw [he]; decide)))
theorem long_any (s : ByteArray) (a : Nat) (w : World) (ha : a < s.size) (hs : s.size < 9000000000000000000) (hc : leB (bt s a).toNat = true ∨ dgB (bt s a).toNat = true ∨ ((bt s a).toNat : Int) = 36) :
    Calls Tryd.prog 15 #[.string s, .int .i64 (a : Nat)] w fun e w' => LgP s a (wd (tl s a)) e ∧ Below w.heap.size w w' := by
  cases x : leB (bt s a).toNat
  · by_cases d : ((bt s a).toNat : Int) = 36
    · rw [wd_mon ha x d]
      exact long_mon s a w ha hs x d
    · have z : dgB (bt s a).toNat = true := by rcases hc with y | y | y
                                               · rw [x] at y; cases y
                                               · exact y
                                               · exact absurd y d
      rw [wd_num ha x d z]
      exact long_num s a w ha hs x d
  · rw [wd_let ha x]
    exact long_let s a w ha hs x
theorem ext_nil (s : ByteArray) (a : Nat) : s.extract a (a + 0) = ⟨#[]⟩ := by rw [ext_is, show a + 0 - a = 0 by omega]; rfl
set_option maxRecDepth 100000 in
set_option maxHeartbeats 4000000 in
theorem Cut_any (s : ByteArray) (w : World) (hs : s.size ≤ 8192) (hT : Tab w) :
    Calls Tryd.prog 8 #[.string s] w fun e w' => CutP s w e w' := by
  have h : ¬ (8192 : Int) < (s.size : Int) := by omega
  have TH := hid <| hT
  clear hT
  go_enter Tryd.func8, Tryd.ntmps8
  go_wp2
  go_step3
  go_wp2
  go_step3
  go_wp2
  go_loopg [5, 6] (s.size + 1) (fun g lv av wr => ∃ (R : List Wd) (k : Nat) (l0 : Value), l0 = lv ∧ k ≤ s.size ∧ g = s.size + 1 - k ∧ R.length ≤ k ∧ av = .int .i64 (k : Nat) ∧ Hid (Rw wr w.heap.size 41 s lv R) ∧ Hid (Below w.heap.size w wr) ∧ Hid (Jn s R k))
  case atStart => exact ⟨[], 0, _, rfl, Nat.zero_le _, rfl, Nat.le_refl _, rfl, Rw.nil _ _ _ _, Below.refl _ _, Jn.start s⟩
  case round =>
    obtain ⟨R, k, lv, rfl, hk, rfl, hR, rfl, HR, HB, HJ⟩ := hrel
    by_cases q : k < s.size
    · have q' : (k : Int) < (s.size : Int) := by omega
      have xi := congrArg (fun c : UInt8 => (c.toNat : Int)) (bt_at q)
      cases x1 : blB (bt s k).toNat
      · by_cases x2 : ((bt s k).toNat : Int) = 35
        · skip
          have NJ := hid <| HJ.out.hash q (by omega)
          have c0 : 1 ≤ runC (tl s k) := by rw [tl_cons q]; unfold runC; rw [if_neg (by omega)]; omega
          rw [x2] at xi x1
          go_wp2_with (go_at_call 12; refine (blank_any _ _).mono ?_; rintro e w5 ⟨rfl, rfl⟩)
          go_loopg [6] (s.size + 1 - k) (fun g av wy => ∃ j : Nat, k ≤ j ∧ j ≤ s.size ∧ g = s.size + 1 - j ∧ av = .int .i64 (j : Nat) ∧ wr = wy ∧ Hid (j + runC (tl s j) = k + runC (tl s k)))
          case atStart => exact ⟨k, Nat.le_refl _, hk, rfl, rfl, rfl, rfl⟩
          case round =>
            obtain ⟨j, kj, hj, rfl, rfl, rfl, hr⟩ := hrel
            by_cases qj : j < s.size
            · have qj' : (j : Int) < (s.size : Int) := by omega
              have xj := congrArg (fun c : UInt8 => (c.toNat : Int)) (bt_at qj)
              by_cases z : ((bt s j).toNat : Int) = 10
              · have hj2 : j = k + runC (tl s k) := by
                  rw [← hr.out, runC_cons qj, if_pos (by omega)]
                  rfl
                have NJ2 : Hid (Jn s R j) := by show Jn s R j; rw [hj2]; exact NJ.out
                have lt : k + 1 ≤ j := by omega
                clear hj2
                go_wp2
                go_roundg (s.size + 1 - j)
                case measure => omega
                case rel => exact ⟨R, j, _, rfl, hj, rfl, by omega, rfl, HR, HB, NJ2⟩
              · have z' : (((bt s j).toNat : Int) == 10) = false := beqf z
                have HX : Hid (j + 1 + runC (tl s (j + 1)) = k + runC (tl s k)) := by
                  have := hr.out
                  rw [runC_cons qj, if_neg (by omega)] at this
                  show _ = _
                  omega
                go_wp2
                go_roundg (s.size + 1 - (j + 1))
                case measure => omega
                case rel => exact ⟨j + 1, by omega, by omega, rfl, by rw [Int.natCast_add]; rfl, rfl, HX⟩
            · have qj' : ¬ (j : Int) < (s.size : Int) := by omega
              obtain rfl : j = s.size := by omega
              have HJX : Hid (Jn s R s.size) := by
                have e : s.size = k + runC (tl s k) := by rw [← hr.out, tl_nil (Nat.le_refl _)]; rfl
                show Jn s R s.size
                rw [e]
                exact NJ.out
              have FJ := hid <| HJX.out.fin (Nat.le_refl _)
              have NB := X4.new wr 41 (.int .i64 0) (.string ⟨#[]⟩) (.int .i64 0) (.int .i64 (s.size : Nat))
              have CH : Hid (∀ j u, (wC s (0, 0, 0, s.size))[j]? = some u → (wr.alloc (.cells #[.int .i64 0, .string ⟨#[]⟩, .int .i64 0, .int .i64 (s.size : Nat)] 41)).cell? ⟨wr.heap.size, j, none⟩ = some u) := NB.wc (by unfold wC; dsimp only; rw [ext_nil]; rfl)
              have RN := hid <| HR.out.next NB.bl
              have BN := hid <| nextB HB.out NB.bl
              have bs := HB.out.size
              have bs' : w.heap.size ≤ (wr.alloc (.cells #[.int .i64 0, .string ⟨#[]⟩, .int .i64 0, .int .i64 (s.size : Nat)] 41)).heap.size := BN.out.size
              clear NB
              go_wp2_with (at_builtin; refine wpList_addX rfl (.tmp 90) (.tmp 93) rfl s w.heap.size lv R (0, 0, 0, s.size) rfl RN.out wr.heap.size rfl CH.out (by omega) (by first | exact bs' | (simp; omega)) ?_; intro v2 w2 o2 g2)
              have B2 := RN.out.grow BN.out (Nat.le_refl _) g2
              try rw [Exit.noGoto_ret]
              go_ret3
              refine ⟨B2, ?_⟩
              rw [FJ.out]
              exact ⟨v2, rfl, o2⟩
        · have x2' : (((bt s k).toNat : Int) == 35) = false := beqf x2
          have NBL := hid (x1 : isBl (bt s k) = false)
          have NE := hid (by omega : (bt s k).toNat ≠ 35)
          cases x3 : leB (bt s k).toNat
          · cases x4 : dgB (bt s k).toNat
            · by_cases x5 : ((bt s k).toNat : Int) = 36
              · have CC : leB (bt s k).toNat = true ∨ dgB (bt s k).toNat = true ∨ ((bt s k).toNat : Int) = 36 := .inr (.inr x5)
                have x2' : ((36 : Int) == 35) = false := by decide
                have LH := hid fun w => long_any s k w q (by omega) CC
                clear CC
                rw [x5] at xi x1 x3 x4
                clear x2 x5
                cases hw : wd (tl s k) with
                | none =>
                  have FJ := hid <| HJ.out.bad q NBL.out NE.out hw
                  rw [hw] at LH
                  clear hw
                  go_wp2_with (first | (go_at_call 12; refine (blank_any _ _).mono ?_; rintro e w5 ⟨rfl, rfl⟩) | (go_at_call 13; refine (letter_any _ _).mono ?_; rintro e w5 ⟨rfl, rfl⟩) | (go_at_call 14; refine (digit_any _ _).mono ?_; rintro e w5 ⟨rfl, rfl⟩))
                  refine Calls.mono (LH.out _) ?_
                  rintro e w6 ⟨⟨yk, yt, yn, yb, hL⟩, hb6⟩
                  subst hL
                  have B6 := nextB HB.out hb6
                  have B7 := nextB B6 (X4.new w6 41 (.int .i64 yk) (.string yt) (.int .i64 yn) (.int .i64 yb)).bl
                  have B7 := hid B7
                  go_wp2
                  try rw [Exit.noGoto_ret]
                  go_ret3
                  refine ⟨B7.out, ?_⟩
                  rw [FJ.out]
                  rfl
                | some y =>
                  obtain ⟨yk, yn, yv⟩ := y
                  have NJ := hid <| HJ.out.word q NBL.out NE.out hw
                  obtain ⟨n0, n1⟩ := wd_len hw
                  rw [tl_len] at n1
                  rw [hw] at LH
                  clear hw
                  have ez : (s.extract k (k + yn)).size = yn := by rw [ByteArray.size_extract]; omega
                  go_wp2_with (first | (go_at_call 12; refine (blank_any _ _).mono ?_; rintro e w5 ⟨rfl, rfl⟩) | (go_at_call 13; refine (letter_any _ _).mono ?_; rintro e w5 ⟨rfl, rfl⟩) | (go_at_call 14; refine (digit_any _ _).mono ?_; rintro e w5 ⟨rfl, rfl⟩))
                  refine Calls.mono (LH.out _) ?_
                  rintro e w6 ⟨hL, hb6⟩
                  have hL : e = .returned (.tuple #[.agg #[.int .i64 (yk : Nat), .string (s.extract k (k + yn)), .int .i64 (yv : Nat), .int .i64 (k : Nat)], .bool true]) := hL
                  subst hL
                  generalize hT : s.extract k (k + yn) = T at *
                  have HT := hid hT
                  clear hT
                  have R6 := HR.out.next hb6
                  have B6 := nextB HB.out hb6
                  have X7 := X4.new w6 41 (.int .i64 (yk : Nat)) (.string T) (.int .i64 (yv : Nat)) (.int .i64 (k : Nat))
                  have R7 := hid <| R6.next X7.bl
                  have B7 := hid <| nextB B6 X7.bl
                  have lt6 := hid <| World.ownsRow.lt R6
                  have X7 := hid X7
                  clear R6 B6
                  go_upto_region 17 with fail
                  generalize w6.alloc (.cells #[.int .i64 (yk : Nat), .string T, .int .i64 (yv : Nat), .int .i64 (k : Nat)] 41) = w7 at *
                  have X8 := X4.new w7 41 (.int .i64 (yk : Nat)) (.string T) (.int .i64 (yv : Nat)) (.int .i64 (k : Nat))
                  have R8 := hid <| R7.out.next X8.bl
                  have B8 := hid <| nextB B7.out X8.bl
                  have Y8 := hid <| X7.out.next X8.bl
                  have bs8 := B8.out.size
                  have CH := hid <| X8.wc (s := s) (y := (yk, yn, yv, k)) (by unfold wC; dsimp only; rw [HT.out])
                  obtain ⟨c0, c1, c2, c3, cf, _, _⟩ := X7.out
                  go_wp2_with (at_builtin; refine wpList_addX rfl (.tmp 60) (.tmp 62) rfl s w.heap.size lv R (yk, yn, yv, k) rfl R8.out w7.heap.size rfl CH.out (by omega) (by first | exact bs8 | (simp; omega)) ?_; intro v2 w2 o2 g2; have d1 := g2.cell Y8.out.c1 (fun h => by have := (lt6.out _ h.symm).2; dsimp only at this; omega); have B2 := hid (R8.out.grow B8.out (Nat.le_refl _) g2); have O2 := hid o2; clear o2 g2 c0 c1 c2 c3 cf)
                  go_roundg (s.size + 1 - (k + yn))
                  case measure => omega
                  case rel => exact ⟨R ++ [(yk, yn, yv, k)], k + yn, _, rfl, by omega, rfl, by simp; omega, by rw [Int.natCast_add], O2, B2, NJ⟩
              · skip
                have x5' : (((bt s k).toNat : Int) == 36) = false := beqf x5
                have WS := hid <| wd_sgn q x3 x5 x4
                have TB := hid <| TH.out.below HB.out TH.out.1
                clear x5
                go_upto_region 20 with (first | (refine wpList_tab rfl rfl TB.out ?_) | (go_at_call 12; refine (blank_any _ _).mono ?_; rintro e w5 ⟨rfl, rfl⟩) | (go_at_call 13; refine (letter_any _ _).mono ?_; rintro e w5 ⟨rfl, rfl⟩) | (go_at_call 14; refine (digit_any _ _).mono ?_; rintro e w5 ⟨rfl, rfl⟩))
                have HA := hid tab_at
                have HZ : (tabA).size = 20 := rfl
                generalize tabA = A at *
                go_loopg [5, 6, 70] 20 (fun g l5 a6 iv wy => ∃ j : Nat, j ≤ 20 ∧ g = 20 - j ∧ l5 = lv ∧ a6 = .int .i64 (k : Nat) ∧ iv = .int .i64 (j : Nat) ∧ wr = wy ∧ Hid (∀ i, i < j → hpB (tl s k) (sg i) = false))
                case atStart => exact ⟨0, by omega, rfl, rfl, rfl, rfl, rfl, fun i hi => by omega⟩
                case round =>
                  obtain ⟨j, hj, rfl, rfl, rfl, rfl, rfl, hn⟩ := hrel
                  by_cases qj : j < 20
                  · have qj' : (j : Int) < 20 := by omega
                    have hAj := fun w => idx_run A j _ w qj (HA.out j qj) HZ
                    have PH := hid fun w => hp_at s k j w hk hs qj
                    cases y : hpB (tl s k) (sg j)
                    · have NN := hid (fun i hi => by rcases Nat.lt_or_ge i j with c | c
                                                     · exact hn.out i c
                                                     · obtain rfl : i = j := by omega
                                                       exact y : ∀ i, i < j + 1 → hpB (tl s k) (sg i) = false)
                      go_wp2_with (go_at_call 16; with_reducible refine Calls.mono (PH.out _) ?_; rintro e w5 ⟨rfl, rfl⟩)
                      go_roundg (20 - (j + 1))
                      case measure => omega
                      case rel => exact ⟨j + 1, by omega, rfl, rfl, rfl, by rw [Int.natCast_add]; rfl, rfl, NN⟩
                    · skip
                      have en := sg_at qj hn.out y
                      obtain ⟨ez, l1, l2⟩ := sg_len j qj
                      have hw : wd (tl s k) = some (7, (sg j).length, 0) := by
                        rw [WS.out]
                        unfold sgnW
                        rw [en, if_neg (by omega)]
                      have NJ := hid <| HJ.out.word q NBL.out NE.out hw
                      obtain ⟨n0, n1⟩ := wd_len hw
                      rw [tl_len] at n1
                      have HT := hid <| sgn_text hk y
                      clear hw en
                      rw [y] at PH
                      generalize hTT : tx (sg j) = T at *
                      clear hTT
                      generalize (sg j).length = L at *
                      have X8 := X4.new wr 41 (.int .i64 7) (.string T) (.int .i64 0) (.int .i64 (k : Nat))
                      have R8 := hid <| HR.out.next X8.bl
                      have B8 := hid <| nextB HB.out X8.bl
                      have bs8 := B8.out.size
                      have CH := hid <| X8.wc (s := s) (y := (7, L, 0, k)) (by unfold wC; dsimp only; rw [← HT.out]; rfl)
                      clear X8 y
                      go_wp2_with (first | (go_at_call 16; with_reducible refine Calls.mono (PH.out _) ?_; rintro e w5 ⟨rfl, rfl⟩) | (at_builtin; refine wpList_addX rfl (.tmp 78) (.tmp 82) rfl s w.heap.size _ R (7, L, 0, k) rfl R8.out wr.heap.size rfl CH.out (by omega) (by first | exact bs8 | (simp; omega)) ?_; intro v2 w2 o2 g2; have B2 := hid (R8.out.grow B8.out (Nat.le_refl _) g2); have O2 := hid o2; clear o2 g2))
                      go_roundg (s.size + 1 - (k + L))
                      case measure => omega
                      case rel => exact ⟨R ++ [(7, L, 0, k)], k + L, _, rfl, by omega, rfl, by simp; omega, by rw [Int.natCast_add], O2, B2, NJ⟩
                  · skip
                    obtain rfl : j = 20 := by omega
                    have hw : wd (tl s k) = none := by
                      rw [WS.out]
                      unfold sgnW
                      rw [sg_none hn.out, if_pos rfl]
                    have FJ := hid <| HJ.out.bad q NBL.out NE.out hw
                    clear hw
                    go_wp2
                    try rw [Exit.noGoto_ret]
                    go_ret3
                    refine ⟨HB.out, ?_⟩
                    rw [FJ.out]
                    rfl
            · have CC : leB (bt s k).toNat = true ∨ dgB (bt s k).toNat = true ∨ ((bt s k).toNat : Int) = 36 := .inr (.inl x4)
              have LH := hid fun w => long_any s k w q (by omega) CC
              clear CC
              cases hw : wd (tl s k) with
              | none =>
                have FJ := hid <| HJ.out.bad q NBL.out NE.out hw
                rw [hw] at LH
                clear hw
                go_wp2_with (first | (go_at_call 12; refine (blank_any _ _).mono ?_; rintro e w5 ⟨rfl, rfl⟩) | (go_at_call 13; refine (letter_any _ _).mono ?_; rintro e w5 ⟨rfl, rfl⟩) | (go_at_call 14; refine (digit_any _ _).mono ?_; rintro e w5 ⟨rfl, rfl⟩))
                refine Calls.mono (LH.out _) ?_
                rintro e w6 ⟨⟨yk, yt, yn, yb, hL⟩, hb6⟩
                subst hL
                have B6 := nextB HB.out hb6
                have B7 := nextB B6 (X4.new w6 41 (.int .i64 yk) (.string yt) (.int .i64 yn) (.int .i64 yb)).bl
                have B7 := hid B7
                go_wp2
                try rw [Exit.noGoto_ret]
                go_ret3
                refine ⟨B7.out, ?_⟩
                rw [FJ.out]
                rfl
              | some y =>
                obtain ⟨yk, yn, yv⟩ := y
                have NJ := hid <| HJ.out.word q NBL.out NE.out hw
                obtain ⟨n0, n1⟩ := wd_len hw
                rw [tl_len] at n1
                rw [hw] at LH
                clear hw
                have ez : (s.extract k (k + yn)).size = yn := by rw [ByteArray.size_extract]; omega
                go_wp2_with (first | (go_at_call 12; refine (blank_any _ _).mono ?_; rintro e w5 ⟨rfl, rfl⟩) | (go_at_call 13; refine (letter_any _ _).mono ?_; rintro e w5 ⟨rfl, rfl⟩) | (go_at_call 14; refine (digit_any _ _).mono ?_; rintro e w5 ⟨rfl, rfl⟩))
                refine Calls.mono (LH.out _) ?_
                rintro e w6 ⟨hL, hb6⟩
                have hL : e = .returned (.tuple #[.agg #[.int .i64 (yk : Nat), .string (s.extract k (k + yn)), .int .i64 (yv : Nat), .int .i64 (k : Nat)], .bool true]) := hL
                subst hL
                generalize hT : s.extract k (k + yn) = T at *
                have HT := hid hT
                clear hT
                have R6 := HR.out.next hb6
                have B6 := nextB HB.out hb6
                have X7 := X4.new w6 41 (.int .i64 (yk : Nat)) (.string T) (.int .i64 (yv : Nat)) (.int .i64 (k : Nat))
                have R7 := hid <| R6.next X7.bl
                have B7 := hid <| nextB B6 X7.bl
                have lt6 := hid <| World.ownsRow.lt R6
                have X7 := hid X7
                clear R6 B6
                go_upto_region 17 with fail
                generalize w6.alloc (.cells #[.int .i64 (yk : Nat), .string T, .int .i64 (yv : Nat), .int .i64 (k : Nat)] 41) = w7 at *
                have X8 := X4.new w7 41 (.int .i64 (yk : Nat)) (.string T) (.int .i64 (yv : Nat)) (.int .i64 (k : Nat))
                have R8 := hid <| R7.out.next X8.bl
                have B8 := hid <| nextB B7.out X8.bl
                have Y8 := hid <| X7.out.next X8.bl
                have bs8 := B8.out.size
                have CH := hid <| X8.wc (s := s) (y := (yk, yn, yv, k)) (by unfold wC; dsimp only; rw [HT.out])
                obtain ⟨c0, c1, c2, c3, cf, _, _⟩ := X7.out
                go_wp2_with (at_builtin; refine wpList_addX rfl (.tmp 60) (.tmp 62) rfl s w.heap.size lv R (yk, yn, yv, k) rfl R8.out w7.heap.size rfl CH.out (by omega) (by first | exact bs8 | (simp; omega)) ?_; intro v2 w2 o2 g2; have d1 := g2.cell Y8.out.c1 (fun h => by have := (lt6.out _ h.symm).2; dsimp only at this; omega); have B2 := hid (R8.out.grow B8.out (Nat.le_refl _) g2); have O2 := hid o2; clear o2 g2 c0 c1 c2 c3 cf)
                go_roundg (s.size + 1 - (k + yn))
                case measure => omega
                case rel => exact ⟨R ++ [(yk, yn, yv, k)], k + yn, _, rfl, by omega, rfl, by simp; omega, by rw [Int.natCast_add], O2, B2, NJ⟩
          · have CC : leB (bt s k).toNat = true ∨ dgB (bt s k).toNat = true ∨ ((bt s k).toNat : Int) = 36 := .inl x3
            have LH := hid fun w => long_any s k w q (by omega) CC
            clear CC
            cases hw : wd (tl s k) with
            | none =>
              have FJ := hid <| HJ.out.bad q NBL.out NE.out hw
              rw [hw] at LH
              clear hw
              go_wp2_with (first | (go_at_call 12; refine (blank_any _ _).mono ?_; rintro e w5 ⟨rfl, rfl⟩) | (go_at_call 13; refine (letter_any _ _).mono ?_; rintro e w5 ⟨rfl, rfl⟩) | (go_at_call 14; refine (digit_any _ _).mono ?_; rintro e w5 ⟨rfl, rfl⟩))
              refine Calls.mono (LH.out _) ?_
              rintro e w6 ⟨⟨yk, yt, yn, yb, hL⟩, hb6⟩
              subst hL
              have B6 := nextB HB.out hb6
              have B7 := nextB B6 (X4.new w6 41 (.int .i64 yk) (.string yt) (.int .i64 yn) (.int .i64 yb)).bl
              have B7 := hid B7
              go_wp2
              try rw [Exit.noGoto_ret]
              go_ret3
              refine ⟨B7.out, ?_⟩
              rw [FJ.out]
              rfl
            | some y =>
              obtain ⟨yk, yn, yv⟩ := y
              have NJ := hid <| HJ.out.word q NBL.out NE.out hw
              obtain ⟨n0, n1⟩ := wd_len hw
              rw [tl_len] at n1
              rw [hw] at LH
              clear hw
              have ez : (s.extract k (k + yn)).size = yn := by rw [ByteArray.size_extract]; omega
              go_wp2_with (first | (go_at_call 12; refine (blank_any _ _).mono ?_; rintro e w5 ⟨rfl, rfl⟩) | (go_at_call 13; refine (letter_any _ _).mono ?_; rintro e w5 ⟨rfl, rfl⟩) | (go_at_call 14; refine (digit_any _ _).mono ?_; rintro e w5 ⟨rfl, rfl⟩))
              refine Calls.mono (LH.out _) ?_
              rintro e w6 ⟨hL, hb6⟩
              have hL : e = .returned (.tuple #[.agg #[.int .i64 (yk : Nat), .string (s.extract k (k + yn)), .int .i64 (yv : Nat), .int .i64 (k : Nat)], .bool true]) := hL
              subst hL
              generalize hT : s.extract k (k + yn) = T at *
              have HT := hid hT
              clear hT
              have R6 := HR.out.next hb6
              have B6 := nextB HB.out hb6
              have X7 := X4.new w6 41 (.int .i64 (yk : Nat)) (.string T) (.int .i64 (yv : Nat)) (.int .i64 (k : Nat))
              have R7 := hid <| R6.next X7.bl
              have B7 := hid <| nextB B6 X7.bl
              have lt6 := hid <| World.ownsRow.lt R6
              have X7 := hid X7
              clear R6 B6
              go_upto_region 17 with fail
              generalize w6.alloc (.cells #[.int .i64 (yk : Nat), .string T, .int .i64 (yv : Nat), .int .i64 (k : Nat)] 41) = w7 at *
              have X8 := X4.new w7 41 (.int .i64 (yk : Nat)) (.string T) (.int .i64 (yv : Nat)) (.int .i64 (k : Nat))
              have R8 := hid <| R7.out.next X8.bl
              have B8 := hid <| nextB B7.out X8.bl
              have Y8 := hid <| X7.out.next X8.bl
              have bs8 := B8.out.size
              have CH := hid <| X8.wc (s := s) (y := (yk, yn, yv, k)) (by unfold wC; dsimp only; rw [HT.out])
              obtain ⟨c0, c1, c2, c3, cf, _, _⟩ := X7.out
              go_wp2_with (at_builtin; refine wpList_addX rfl (.tmp 60) (.tmp 62) rfl s w.heap.size lv R (yk, yn, yv, k) rfl R8.out w7.heap.size rfl CH.out (by omega) (by first | exact bs8 | (simp; omega)) ?_; intro v2 w2 o2 g2; have d1 := g2.cell Y8.out.c1 (fun h => by have := (lt6.out _ h.symm).2; dsimp only at this; omega); have B2 := hid (R8.out.grow B8.out (Nat.le_refl _) g2); have O2 := hid o2; clear o2 g2 c0 c1 c2 c3 cf)
              go_roundg (s.size + 1 - (k + yn))
              case measure => omega
              case rel => exact ⟨R ++ [(yk, yn, yv, k)], k + yn, _, rfl, by omega, rfl, by simp; omega, by rw [Int.natCast_add], O2, B2, NJ⟩
      · have NJ := hid <| HJ.out.blank q x1
        go_wp2_with (go_at_call 12; refine (blank_any _ _).mono ?_; rintro e w5 ⟨rfl, rfl⟩)
        go_roundg (s.size + 1 - (k + 1))
        case measure => omega
        case rel => exact ⟨R, k + 1, _, rfl, by omega, rfl, by omega, by rw [Int.natCast_add]; rfl, HR, HB, NJ⟩
    · have q' : ¬ (k : Int) < (s.size : Int) := by omega
      obtain rfl : k = s.size := by omega
      have HJX := HJ
      have FJ := hid <| HJX.out.fin (Nat.le_refl _)
      have NB := X4.new wr 41 (.int .i64 0) (.string ⟨#[]⟩) (.int .i64 0) (.int .i64 (s.size : Nat))
      have CH : Hid (∀ j u, (wC s (0, 0, 0, s.size))[j]? = some u → (wr.alloc (.cells #[.int .i64 0, .string ⟨#[]⟩, .int .i64 0, .int .i64 (s.size : Nat)] 41)).cell? ⟨wr.heap.size, j, none⟩ = some u) := NB.wc (by unfold wC; dsimp only; rw [ext_nil]; rfl)
      have RN := hid <| HR.out.next NB.bl
      have BN := hid <| nextB HB.out NB.bl
      have bs := HB.out.size
      have bs' : w.heap.size ≤ (wr.alloc (.cells #[.int .i64 0, .string ⟨#[]⟩, .int .i64 0, .int .i64 (s.size : Nat)] 41)).heap.size := BN.out.size
      clear NB
      go_wp2_with (at_builtin; refine wpList_addX rfl (.tmp 90) (.tmp 93) rfl s w.heap.size lv R (0, 0, 0, s.size) rfl RN.out wr.heap.size rfl CH.out (by omega) (by first | exact bs' | (simp; omega)) ?_; intro v2 w2 o2 g2)
      have B2 := RN.out.grow BN.out (Nat.le_refl _) g2
      try rw [Exit.noGoto_ret]
      go_ret3
      refine ⟨B2, ?_⟩
      rw [FJ.out]
      exact ⟨v2, rfl, o2⟩
end Go.Proofs.YtobolipjgkabhaaDoor
