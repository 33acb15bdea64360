/- The walk over package frame's encode. -/
import Derived.Test.YtblmfkdcahhhbaaDoorG8
namespace Go.Proofs.YtblmfkdcahhhbaaDoor
open Go.RowKit Go.Shelf
set_option linter.unusedVariables false
set_option linter.unusedSimpArgs false
attribute [local go_sem] Oper.semAt_some

set_option maxRecDepth 100000 in
set_option maxHeartbeats 4000000 in
theorem encode_any (kd : Int) (life num : Nat) (a : Option Addr) (m c : Nat) (pay : List Int) (w : World) (T : Tab w) (y : By w a m c pay) (hm : m ≤ 1000) (hk : 0 ≤ kd ∧ kd < 256) (hl : life < 18446744073709551616) (hnum : num < 4294967296) :
    Calls Tryd.prog 34 #[.agg #[.int .u8 kd, .int .u64 life, .int .u32 num, .slice a m c]] w fun e w' => ∃ b cap, e = .returned (.slice (some ⟨b, 0, none⟩) (fsize m) cap) ∧ SlE w w' b (fsize m) cap (fsec kd life num pay) := by
  have Y : Hid _ := y
  have TT : Hid (Tab w) := T
  have m1 : (m : Int) ≤ 1000 := by omega
  have cf : (m : Int) ≤ (c : Int) := by have := y.fits; omega
  have cm : (c : Int) ≤ 9223372036854775807 := by have := y.max; unfold maxLen at this; omega
  have HK : Hid _ := hk
  have HL : Hid _ := hl
  have HU : Hid _ := hnum
  have n4 : (num : Int) < 4294967296 := by omega
  clear y T hk hl
  refine (callsIn_wide (n := 3)).1 ?_
  refine callsIn_of_wp_marks Tryd.func34 rfl trivial ?_ rfl
  simp only [Tryd.ntmps34, List.size_toArray, List.length_cons, List.length_nil, Nat.reduceAdd, Nat.reduceSub, Array.replicate_succ, Array.replicate_zero, List.push_toArray, List.append_toArray, List.nil_append, List.cons_append]
  refine wpIn_wide.2 ?_
  obtain ⟨C, hC⟩ : ∃ C : Array Value, C = #[.int .u8 kd, .int .u64 (life : Nat), .int .u32 (num : Nat), .slice a m c] := ⟨_, rfl⟩
  have A0 : Hid (EncH w ((w.alloc (.cells #[.int .u8 kd, .int .u64 (life : Nat), .int .u32 (num : Nat), .slice a m c] 75)).alloc (.cells #[.int .u8 72, .int .u8 kd] 5)) C (.slice (some ⟨w.heap.size + 1, 0, none⟩) 2 2) [72, kd]) := by
    refine ⟨((Below.refl _ _).alloc (Nat.le_refl _) _).alloc (by simp) _, ?_, ?_⟩
    · rw [Below.heap_alloc _ _ _ (by simp), hC]; exact heap_alloc_last w _
    · have := own2 (w.alloc (.cells #[.int .u8 kd, .int .u64 (life : Nat), .int .u32 (num : Nat), .slice a m c] 75)) 72 kd (by decide) HK.out
      rw [World.size_alloc] at this
      exact this
  have HC : Hid (C = #[.int .u8 kd, .int .u64 (life : Nat), .int .u32 (num : Nat), .slice a m c]) := hC
  clear hC
  go_wp2_with fail
  refine Calls.mono (appendLow_any _ life 8 (w.heap.size + 1) [72, kd] _ A0.out.own A0.out.lt (by simp) (by decide) HL.out) ?_
  rintro e w1 ⟨⟨v1, rfl, o1⟩, b1⟩
  have A1 : Hid _ := A0.out.next o1 b1
  have x2 : w1.cell? ⟨w.heap.size, 2, none⟩ = some (.int .u32 (num : Nat)) := by rw [cell_of_row _ _ _ _ _ _ A1.out.box, HC.out]; rfl
  clear o1 b1 A0
  go_wp2_with fail
  refine Calls.mono (appendLow_any v1 num 4 (w.heap.size + 1) _ _ A1.out.own A1.out.lt (by simp [lowB_len]) (by decide) (by have := HU.out; omega)) ?_
  rintro e w2 ⟨⟨v2, rfl, o2⟩, b2⟩
  have A2 : Hid _ := A1.out.next o2 b2
  have x3 : w2.cell? ⟨w.heap.size, 3, none⟩ = some (.slice a m c) := by rw [cell_of_row _ _ _ _ _ _ A2.out.box, HC.out]; rfl
  clear o2 b2 A1 x2
  go_wp2_with fail
  refine Calls.mono (appendLow_any v2 m 2 (w.heap.size + 1) _ _ A2.out.own A2.out.lt (by simp [lowB_len]) (by decide) (by omega)) ?_
  rintro e w3 ⟨⟨v3, rfl, o3⟩, b3⟩
  have E16 : Hid (([72, kd] ++ lowB 8 life ++ lowB 4 num) ++ lowB 2 m = hd16 kd life num m) := by simp [hd16, Hid]
  have A3 : Hid (EncH w w3 C v3 (hd16 kd life num m)) := by have := A2.out.next o3 b3; rw [E16.out] at this; exact this
  obtain ⟨a3, c3, rfl, y3, -, -⟩ := A3.out.own.by
  have Y3 : Hid _ := y3
  have l16 := hd16_len kd life num m
  rw [l16] at Y3 ⊢
  have x3 : w3.cell? ⟨w.heap.size, 3, none⟩ = some (.slice a m c) := by rw [cell_of_row _ _ _ _ _ _ A3.out.box, HC.out]; rfl
  clear o3 b3 A2 E16 y3 l16
  go_wp2_with fail
  have B4 : Hid (Below w3.heap.size w3 (w3.alloc (.cells #[.slice a3 16 c3, .slice a m c] 32))) := allocB _ _
  refine Calls.mono (Concat2_any w3.heap.size a3 16 c3 (hd16 kd life num m) a m c pay _ (by rw [cell_of_row _ _ _ _ _ _ (heap_alloc_last w3 _)]; rfl) (by rw [cell_of_row _ _ _ _ _ _ (heap_alloc_last w3 _)]; rfl) (Y3.out.below B4.out) (Y.out.below (nextB A3.out.bel B4.out)) (by decide) (by omega)) ?_
  rintro e w5 ⟨⟨v5, rfl, o5⟩, b5⟩
  obtain ⟨a5, c5, rfl, y5, -, -⟩ := o5.by
  have Y5 : Hid _ := y5
  have B5 : Hid (Below w3.heap.size w3 w5) := nextB B4.out b5
  have L5 : Hid ((hd16 kd life num m ++ pay).length ≤ 100000) := by
    show _ ≤ _
    rw [List.length_append, hd16_len, Y.out.len]; omega
  generalize (hd16 kd life num m ++ pay).length = l5 at *
  clear o5 b5 y5 B4
  go_wp2_with fail
  refine Calls.mono (pSum_any a5 l5 c5 (hd16 kd life num m ++ pay) w5 Y5.out L5.out (TT.out.next (nextB A3.out.bel B5.out))) ?_
  rintro e w5' ⟨rfl, rfl⟩
  obtain ⟨S, hS⟩ : ∃ S, S = sum (hd16 kd life num m ++ pay) := ⟨_, rfl⟩
  have S32 : S < 4294967296 := by rw [hS]; unfold sum; omega
  have S32' : (S : Int) < 4294967296 := by omega
  rw [← hS]
  have HS : Hid (S = sum (hd16 kd life num m ++ pay)) := hS
  have A5 : Hid _ := A3.out.below B5.out
  clear hS Y5 L5 Y3 B5
  go_wp2_with fail
  have A5' := A5.out.own
  refine Calls.mono (appendLow_any (.slice a3 16 c3) S 4 (w.heap.size + 1) (hd16 kd life num m) _ (by rw [hd16_len] at A5'; exact A5') A5.out.lt (by rw [hd16_len]; decide) (by decide) (by omega)) ?_
  rintro e w6 ⟨⟨v6, rfl, o6⟩, b6⟩
  have E20 : Hid (hd16 kd life num m ++ lowB 4 S = hd20 kd life num pay) := by
    show _ = _
    unfold hd20; rw [Y.out.len, HS.out]
  have A6 : Hid (EncH w w6 C v6 (hd20 kd life num pay)) := by have := A5.out.next o6 b6; rw [E20.out] at this; exact this
  have x3 : w6.cell? ⟨w.heap.size, 3, none⟩ = some (.slice a m c) := by rw [cell_of_row _ _ _ _ _ _ A6.out.box, HC.out]; rfl
  clear o6 b6 A5 A5' E20 A3
  obtain ⟨N, hN⟩ : ∃ N, N = min m 44 := ⟨_, rfl⟩
  have NN : Hid (N = min m 44) := hN
  have N1 : (N : Int) ≤ (m : Int) := by omega
  have N2 : (N : Int) ≤ 44 := by omega
  clear S32 S32' hN
  go_upto_region 7 with fail
  go_cut [5] from 8 to 39 (fun s wx => s = .int .i64 (N : Nat) ∧ wx = w6)
  case first =>
    have NO := NN.out
    by_cases q : m ≤ 44
    · have q' : (m : Int) ≤ 44 := by omega
      obtain rfl : m = N := by omega
      clear NO
      go_wp2
      go_meet
      case rel => exact ⟨rfl, rfl⟩
    · have q' : (44 : Int) < (m : Int) := by omega
      obtain rfl : N = 44 := by omega
      clear NO
      go_wp2
      go_meet
      case rel => exact ⟨rfl, rfl⟩
  case rest =>
    obtain ⟨rfl, rfl⟩ := hcut
    have F0 : Hid (hd20 kd life num pay ++ pay.take N = fsec kd life num pay 0) := by
      show _ = _
      rw [fsec]
      congr 1
      rw [NN.out]
      rcases Nat.le_total m 44 with q | q
      · rw [Nat.min_eq_left q, List.take_of_length_le (by rw [Y.out.len]; exact Nat.le_refl _), List.take_of_length_le (by rw [Y.out.len]; exact q)]
      · rw [Nat.min_eq_right q]
    have YT : Hid (By wc a N c (pay.take N)) := (Y.out.below A6.out.bel).cutTo (by omega)
    go_upto_region 9 with (at_builtin; refine wpList_append_by rfl (.tmp 40) (.tmp 44) rfl (w.heap.size + 1) _ (hd20 kd life num pay) rfl A6.out.own a N c (pay.take N) rfl YT.out (by rw [hd20_len]; omega) A6.out.lt ?_; intro v7 w7 o7 g7; rw [F0.out] at o7; have A7 : Hid _ := And.intro o7 g7; obtain ⟨a7, c7, rfl, y7, s7, -⟩ := o7.by; have Y7 : Hid _ := y7; have S7 : Hid _ := s7; clear o7 g7 y7 s7)
    have A7' := (A6.out.next A7.out.1 ((Below.refl _ _).grown A7.out.2 A6.out.lt (fun k hk => (A6.out.own.row.lt k hk).1)))
    have E8 : Hid _ := EncS.first (w0 := w) (w7 := w7) (a := a7) (c := c7) (x := fsec kd life num pay 0) A7'.bel Y7.out (fun z hz => ⟨by have := (S7.out z hz).1; omega, (S7.out z hz).2⟩)
    have B8 : Hid (Below w7.heap.size w7 ((w7.alloc (.cells #[.slice a7 (fsec kd life num pay 0).length c7] 32)).alloc (.cells #[.slice (some ⟨w7.heap.size, 0, none⟩) 1 1] 57))) := (allocB w7 _).alloc (by simp) _
    have A8 : Hid (EncH w ((w7.alloc (.cells #[.slice a7 (fsec kd life num pay 0).length c7] 32)).alloc (.cells #[.slice (some ⟨w7.heap.size, 0, none⟩) 1 1] 57)) C _ (fsec kd life num pay 0)) := A7'.below B8.out
    have x8 : ((w7.alloc (.cells #[.slice a7 (fsec kd life num pay 0).length c7] 32)).alloc (.cells #[.slice (some ⟨w7.heap.size, 0, none⟩) 1 1] 57)).cell? ⟨w.heap.size, 3, none⟩ = some (.slice a m c) := by
      rw [cell_of_row _ _ _ _ _ _ A8.out.box, HC.out]; rfl
    have Y8 : Hid (By ((w7.alloc (.cells #[.slice a7 (fsec kd life num pay 0).length c7] 32)).alloc (.cells #[.slice (some ⟨w7.heap.size, 0, none⟩) 1 1] 57)) a m c pay) := Y.out.below A8.out.bel
    clear A7' A7 B8 Y7 S7 x3 A6 YT F0
    generalize ((w7.alloc (.cells #[.slice a7 (fsec kd life num pay 0).length c7] 32)).alloc (.cells #[.slice (some ⟨w7.heap.size, 0, none⟩) 1 1] 57)) = w8 at *
    generalize w7.heap.size + 1 = Bx at *
    obtain ⟨L, hL⟩ : ∃ L, L = m - N := ⟨_, rfl⟩
    have LL : Hid (L = m - N) := hL
    clear hL
    go_cut [51] from 40 to 50 (fun s wx => ∃ A C b o Bs Bn, s = .func (.func 63) #[] #[.pointer (some ⟨Bs, 0, none⟩), .pointer (some ⟨Bn, 0, none⟩)] ∧ Hid (ChF w wx Bx Bs Bn L A C b o (pay.drop N) (fun _ => fsec kd life num pay 0)))
    case first =>
      have LO := LL.out
      have NO := NN.out
      have mx := Y8.out.max
      rcases Nat.eq_zero_or_pos m with m0 | mp
      · obtain rfl : N = 0 := by omega
        obtain rfl : L = 0 := by omega
        have pe : Hid (pay = []) := List.length_eq_zero_iff.1 (by rw [Y.out.len]; exact m0)
        subst m0
        have CN : Hid (a = none → c = 0) := Y8.out.nil
        have c0 : (0 : Int) ≤ (c : Int) := by omega
        have MX : Hid _ := mx
        clear LO NO mx
        cases a with
        | none =>
          obtain rfl := CN.out rfl
          go_wp2_with (go_at_call 53; refine Calls.mono (chunk_any _ _ _ _) ?_; rintro e w9 ⟨rfl, rfl⟩)
          go_meet
          case rel => exact ⟨_, _, 0, 0, _, _, rfl, ChF.mk2 E8.out (by rw [pe.out]; exact by0 _ (by decide) (fun _ => rfl)) (fun h => absurd h (by decide)) (fun h => absurd h (by decide))⟩
        | some x =>
          rcases Nat.eq_zero_or_pos c with c0' | cp
          · subst c0'
            go_wp2_with (go_at_call 53; refine Calls.mono (chunk_any _ _ _ _) ?_; rintro e w9 ⟨rfl, rfl⟩)
            go_meet
            case rel => exact ⟨_, _, 0, 0, _, _, rfl, ChF.mk2 E8.out (by rw [pe.out]; exact by0 _ (by decide) (fun e => by cases e)) (fun h => absurd h (by decide)) (fun h => absurd h (by decide))⟩
          · have cp' : (0 : Int) < (c : Int) := by omega
            go_wp2_with (go_at_call 53; refine Calls.mono (chunk_any _ _ _ _) ?_; rintro e w9 ⟨rfl, rfl⟩)
            go_meet
            case rel => exact ⟨_, _, 0, 0, _, _, rfl, ChF.mk2 E8.out (by rw [pe.out]; exact by0 _ (by first | exact MX.out | exact Nat.le_trans (Nat.sub_le _ _) MX.out) (fun e => by cases e)) (fun h => absurd h (by decide)) (fun h => absurd h (by decide))⟩
      · obtain ⟨b, o, h1, h2⟩ := Y.out.cell
        obtain rfl := h1 mp
        have bl : Hid (b < w.heap.size) := Y.out.old mp _ rfl
        have YS : Hid (By w8 (some ⟨b, o + N, none⟩) (m - N) (c - N) (pay.drop N)) := by
          have := Y8.out.seg N (m - N) (by omega)
          have e : seg pay N (m - N) = pay.drop N := by
            unfold seg; rw [List.take_of_length_le]; rw [List.length_drop, Y.out.len]; exact Nat.le_refl _
          rw [e] at this
          exact this
        have c44 : (N : Int) ≤ (c : Int) := by omega
        have PE : Hid (m = N → pay.drop N = []) := fun e => List.length_eq_zero_iff.1 (by rw [List.length_drop, Y.out.len]; omega)
        clear h1 h2 NO
        rcases Nat.lt_or_ge N c with q | q
        · have q' : (N : Int) < (c : Int) := by omega
          have q2 : ¬ c - N = 0 := by omega
          have LO' : Hid (m - N = L) := LO.symm
          clear LO
          go_wp2_with (go_at_call 53; refine Calls.mono (chunk_any _ _ _ _) ?_; rintro e w9 ⟨rfl, rfl⟩)
          go_meet
          case rel => exact ⟨_, _, b, o + N, _, _, rfl, by rw [← LO'.out]; exact ChF.mk2 E8.out YS.out (fun _ => rfl) (fun _ => bl.out)⟩
        · obtain rfl : c = N := by omega
          obtain rfl : m = c := by omega
          obtain rfl : L = 0 := by omega
          clear LO YS q
          go_wp2_with (go_at_call 53; refine Calls.mono (chunk_any _ _ _ _) ?_; rintro e w9 ⟨rfl, rfl⟩)
          go_meet
          case rel => exact ⟨_, _, 0, 0, _, _, rfl, ChF.mk2 E8.out (by rw [PE.out trivial]; exact by0 _ (by simp) (fun e => by cases e)) (fun h => absurd h (by decide)) (fun h => absurd h (by decide))⟩
    case rest =>
      obtain ⟨A, C', b, o, Bs, Bn, rfl, F⟩ := hcut
      have F0Y : Hid (0 < L → By w (some ⟨b, o, none⟩) L C' (pay.drop N)) := fun h => by
        have y := F.out.y
        rw [F.out.ha h] at y
        exact y.kept fun _ x hx => by
          simp at hx; subst hx
          exact (F.out.e.bel.block b (F.out.lo h)).symm
      have PL0 : Hid (chs L ≤ 17) := by
        show _ ≤ _
        have := LL.out
        unfold chs; omega
      obtain ⟨i0, hi, hz0, hz1, hz2⟩ := info_parts ssInfo
      have LS : Hid (Bs < wc.heap.size ∧ Bn < wc.heap.size) := ⟨World.block_lt_of_cell? _ _ F.out.cs, World.block_lt_of_cell? _ _ F.out.cn⟩
      go_wp2_with fail
      refine (wpIn_wide (n := 3)).1 ?_
      refine wpIn_rangeFunc_ownG rfl (by decide) (gf := 63) (lb := #[.pointer (some ⟨Bs, 0, none⟩), .pointer (some ⟨Bn, 0, none⟩)]) rfl trivial (enters_of Tryd.func63 (by kernel_rfl) rfl)
        (chunk_stops (3 - 1) (by decide) Bs Bn b o L C' A F.out.ha F.out.y.fits F.out.y.max (by have := LL.out; omega) wc LS.out.1 LS.out.2 F.out.cs F.out.cn) Keep2.trans (Keep2.put LS.out.1 LS.out.2) (Below.refl _ _) (fun _ => rfl)
        (fun pre W => EncS w W Bx Bs Bn (1 + pre.length) (fpre (fsec kd life num pay 0) (pay.drop N) pre) ∧ wc.heap.size ≤ W.heap.size)
        (fun _ _ _ => False)
        (OwnFrom.and (EncS.own F.out.e.bel.size) (fun _ _ _ _ hs hg _ => Nat.le_trans hs hg.size))
        (fun _ _ _ _ _ hs _ _ => hs)
        ⟨F.out.e.congr (fun j hj => by obtain rfl : j = 0 := by omega
                                       rfl), Nat.le_refl _⟩
        (fun x => { tmps := #[.agg #[.int .u8 kd, .int .u64 (life : Nat), .int .u32 (num : Nat), .slice a m c], .pointer (some ⟨w.heap.size, 0, none⟩), .slice none 0 0, v6, .int .u32 (S : Nat), .int .i64 (N : Nat), .pointer (some ⟨Bx, 0, none⟩), .slice (some ⟨b, o + 63 * x.1, none⟩) (chl L x.1) (chl L x.1), u8, u9, u10, u11, u12, u13, u14, u15, u16, u17, u18, u19, u20, u21, u22, u23, u24, u25, u26, u27, u28, u29, u30, u31, u32, u33, u34, u35, u36, u37, u38, u39, u40, u41, u42, u43, u44, u45, u46, u47, u48, u49, u50, .func (.func 63) #[] #[.pointer (some ⟨Bs, 0, none⟩), .pointer (some ⟨Bn, 0, none⟩)], .slice (some ⟨b, o + 63 * x.1, none⟩) (chl L x.1) (chl L x.1), undef, undef, undef, undef, undef, undef, undef, undef], defers := [] }) ?assign ?body ?done ?stop
      case assign =>
        intro l x W K hK
        dsimp only [encC]
        gi_wp2
        exact hK
      case body =>
        rintro l pre x W ⟨E, WS⟩ plt
        have EI : Hid (EncS w W Bx Bs Bn (1 + pre.length) (fpre (fsec kd life num pay 0) (pay.drop N) pre)) := E
        obtain ⟨v, vs, hv, hr, hy, hp⟩ := E.row
        have HV : Hid _ := hv
        have HR : Hid _ := hr
        have HY : Hid _ := hy
        have HP : Hid _ := hp
        have PL : Hid (pre.length < 17) := by show _ < _; have := PL0.out; omega
        have BS : Hid (Bs < W.heap.size ∧ Bn < W.heap.size) := ⟨Nat.lt_of_lt_of_le LS.out.1 WS, Nat.lt_of_lt_of_le LS.out.2 WS⟩
        have WZ : Hid (wc.heap.size ≤ W.heap.size) := WS
        have YC : Hid (By W (some ⟨b, o + 63 * x.1, none⟩) (chl L x.1) (chl L x.1) ((pay.drop N |>.drop (63 * x.1)).take 63)) := by
          have hx := x.2
          have L0 : 0 < L := by unfold chs at hx; omega
          have y := F0Y.out L0
          have y2 := ((y.below E.bel).seg (63 * x.1) (chl L x.1) (by unfold chl chs at *; omega)).trim
          have e : seg (pay.drop N) (63 * x.1) (chl L x.1) = (pay.drop N |>.drop (63 * x.1)).take 63 := by
            unfold seg chl
            have hl : ((pay.drop N).drop (63 * x.1)).length = L - 63 * x.1 := by rw [List.length_drop, F.out.y.len]
            rcases Nat.le_total 63 (L - 63 * x.1) with q | q
            · rw [Nat.min_eq_left q]
            · rw [Nat.min_eq_right q, List.take_of_length_le (by omega), List.take_of_length_le (by omega)]
          rw [e] at y2
          exact y2
        have QL : Hid (chl L x.1 ≤ 63) := by show _ ≤ _; unfold chl; omega
        clear E hv hr hy hp plt WS
        gi_wp2
        refine region_round (S := fun _ => True) (by kernel_rfl) (fun ⟨_, _, h⟩ => h) (by kernel_rfl) trivial (fun hHeld => ?_)
        refine take2 rfl (i := 2) (v := .slice (some ⟨b, o + 63 * x.1, none⟩) (chl L x.1) (chl L x.1)) (d := 55) rfl rfl (by kernel_rfl) (by kernel_rfl) (by kernel_rfl) (fun _ _ _ h => h) (Or.inl ⟨by rfl, ?_⟩) (by exact hHeld) ?_
        · intro W hW
          try dsimp only at hW
          go_simp
        try simp only [Act.put, List.setIfInBounds_toArray, List.set_cons_zero, List.set_cons_succ]
        refine wpAnyH_ready (rs := [0, 1]) (by kernel_rfl) (by simp) ?_
        refine cons22 rfl rfl rfl (fun K hK => ?_) (fun K hK => ?_)
        · have hb := boxBelow HV.out ((Below.refl _ _).drew)
          have hbc := hb.cell
          go_simp
          refine hK.out _ _ ?_ (fun hX => ?_)
          · exact trivial
          clear hK K hX
          try simp only [Act.put, List.setIfInBounds_toArray, List.set_cons_zero, List.set_cons_succ]
          clear hbc hb
          refine wpAnyH_ready (rs := [1]) (by kernel_rfl) (by simp) ?_
          refine cons2 rfl rfl (fun K hK => ?_)
          go_simp
          have q1 : Hid (Below W.heap.size W ((W.alloc (.cells #[.int .u8 67] 5)).drew)) := (allocB W _).drew
          have y1 : Hid (By ((W.alloc (.cells #[.int .u8 67] 5)).drew) (some ⟨W.heap.size, 0, none⟩) 1 1 [67]) := (by_new W 67 5 (by decide) (by decide)).below ((Below.refl _ _).drew)
          generalize (W.alloc (.cells #[.int .u8 67] 5)).drew = x1 at *
          refine hK.out _ _ ?_ (fun hX => ?_)
          · exact trivial
          clear hK K hX
          try simp only [Act.put, List.setIfInBounds_toArray, List.set_cons_zero, List.set_cons_succ]
          refine wpAnyH_ready (rs := [3]) (by kernel_rfl) (by simp) ?_
          refine cons2 rfl rfl (fun K hK => ?_)
          go_simp
          have q3 : Hid (Below x1.heap.size x1 (x1.alloc (.cells #[.slice (some ⟨W.heap.size, 0, none⟩) 1 1, .slice (some ⟨b, o + 63 * x.1, none⟩) (chl L x.1) (chl L x.1)] 32))) := allocB x1 _
          have d0 : Hid ((x1.alloc (.cells #[.slice (some ⟨W.heap.size, 0, none⟩) 1 1, .slice (some ⟨b, o + 63 * x.1, none⟩) (chl L x.1) (chl L x.1)] 32)).cell? ⟨x1.heap.size, 0, none⟩ = some (.slice (some ⟨W.heap.size, 0, none⟩) 1 1)) := by
            show _ = _
            rw [cell_of_row _ _ _ _ _ _ (heap_alloc_last x1 _)]; rfl
          have d1 : Hid ((x1.alloc (.cells #[.slice (some ⟨W.heap.size, 0, none⟩) 1 1, .slice (some ⟨b, o + 63 * x.1, none⟩) (chl L x.1) (chl L x.1)] 32)).cell? ⟨x1.heap.size, 1, none⟩ = some (.slice (some ⟨b, o + 63 * x.1, none⟩) (chl L x.1) (chl L x.1))) := by
            show _ = _
            rw [cell_of_row _ _ _ _ _ _ (heap_alloc_last x1 _)]; rfl
          generalize x1.alloc (.cells #[.slice (some ⟨W.heap.size, 0, none⟩) 1 1, .slice (some ⟨b, o + 63 * x.1, none⟩) (chl L x.1) (chl L x.1)] 32) = x3 at *
          refine hK.out _ _ ?_ (fun hX => ?_)
          · exact trivial
          clear hK K hX
          try simp only [Act.put, List.setIfInBounds_toArray, List.set_cons_zero, List.set_cons_succ]
          refine wpAnyH_ready (rs := [4]) (by kernel_rfl) (by simp) ?_
          refine cons2 rfl rfl (fun K hK => ?_)
          go_simp
          refine Calls.mono (Concat2_any x1.heap.size (some ⟨W.heap.size, 0, none⟩) 1 1 [67] _ _ _ ((pay.drop N |>.drop (63 * x.1)).take 63) x3 d0.out d1.out (y1.out.below q3.out) (YC.out.below (nextB q1.out q3.out)) (by decide) (by have := QL.out; omega)) ?_
          rintro e x4 ⟨⟨v4, rfl, o4⟩, b4⟩
          obtain ⟨a4, c4, rfl, y4, s4, -⟩ := o4.by
          have S4 : Hid (∀ z, a4 = some z → W.heap.size ≤ z.block ∧ z.block < x4.heap.size) := fun z hz => by
            have h := s4 z hz
            have := (nextB q1.out q3.out).size
            exact ⟨by omega, h.2⟩
          have q4 : Hid (Below W.heap.size W x4) := nextB (nextB q1.out q3.out) b4
          have Y4 : Hid (By x4 a4 (67 :: (pay.drop N |>.drop (63 * x.1)).take 63 : List Int).length c4 (67 :: (pay.drop N |>.drop (63 * x.1)).take 63 : List Int)) := y4
          have l4 : ([67] ++ (pay.drop N |>.drop (63 * x.1)).take 63 : List Int).length = (67 :: (pay.drop N |>.drop (63 * x.1)).take 63 : List Int).length := rfl
          rw [l4]
          clear o4 y4 s4 b4 l4 d0 d1 y1 q1 q3
          generalize (67 :: (pay.drop N |>.drop (63 * x.1)).take 63 : List Int).length = L4 at *
          go_wp2_with fail
          refine hK.out _ _ ?_ (fun hX => ?_)
          · exact trivial
          clear hK K hX
          try simp only [Act.put, List.setIfInBounds_toArray, List.set_cons_zero, List.set_cons_succ]
          refine wpAnyH_ready (rs := [5]) (by kernel_rfl) (by simp) ?_
          refine cons2 rfl rfl (fun K hK => ?_)
          go_simp
          have q5 : Hid (Below x4.heap.size x4 (x4.alloc (.cells #[.slice a4 L4 c4] 32))) := allocB x4 _
          have n5 : Hid (∀ j u, [Value.slice a4 L4 c4][j]? = some u → (x4.alloc (.cells #[.slice a4 L4 c4] 32)).cell? ((⟨x4.heap.size, 0, none⟩ : Addr).add j) = some u) := fun j u hu => World.news_of_block (heap_alloc_last x4 _) j u hu
          generalize x4.alloc (.cells #[.slice a4 L4 c4] 32) = x5 at *
          refine hK.out _ _ ?_ (fun hX => ?_)
          · exact trivial
          clear hK K hX
          try simp only [Act.put, List.setIfInBounds_toArray, List.set_cons_zero, List.set_cons_succ]
          refine wpAnyH_ready (rs := [6]) (by kernel_rfl) (by simp) ?_
          refine cons2 rfl rfl (fun K hK => ?_)
          refine step_append_lies _ (by rfl) (.tmp 53) (.tmp 58) 57 (by rfl) w.heap.size 32 i0 _ 1 24 Tryd.underlying57 hi hz0 hz1 hz2 rfl (by decide) v (1 + pre.length) vs (by rfl) (ownsBelow HR.out (nextB q4.out q5.out)) ⟨x4.heap.size, 0, none⟩ 1 1 [_] (by rfl) rfl n5.out (fun u hu => by simp at hu; subst hu; rfl) (by decide) (by unfold maxLen; have := PL.out; omega) (by have := PL.out; omega) (by have := EI.out.bel.size; have := (nextB q4.out q5.out).size; omega) _ rfl ?_
          intro g6 cap6 x6 o6 gr6 hat6 _
          have NX : Hid _ := EncS.next EI.out HV.out HR.out HY.out HP.out (nextB q4.out q5.out) (Y4.out.below q5.out) (fun z hz => ⟨(S4.out z hz).1, Nat.lt_of_lt_of_le (S4.out z hz).2 q5.out.size⟩) o6 gr6 hat6 BS.out.1 BS.out.2 F.out.n1 F.out.n2
          clear o6 gr6 hat6 n5 q4 q5 Y4 S4
          refine hK.out _ _ ?_ (fun hX => ?_)
          · exact trivial
          clear hK K hX
          try simp only [Act.put, List.setIfInBounds_toArray, List.set_cons_zero, List.set_cons_succ]
          refine wpAnyH_ready (rs := [7]) (by kernel_rfl) (by simp) ?_
          refine cons2 rfl rfl (fun K hK => ?_)
          have h6 := NX.out.1.cell
          have f6 := NX.out.1.frozen
          go_simp
          refine hK.out _ _ ?_ (fun hX => ?_)
          · exact trivial
          clear hK K hX
          try simp only [Act.put, List.setIfInBounds_toArray, List.set_cons_zero, List.set_cons_succ]
          refine wpAnyH_done (by kernel_rfl) ?_ _
          refine ⟨NX.out.2.2.2.from _, NX.out.2.2.1, ?_, Nat.le_trans WZ.out NX.out.2.2.2.size⟩
          have := NX.out.2.1
          rw [fpre_next] at this
          have e : 1 + (pre ++ [x]).length = 1 + pre.length + 1 := by simp; omega
          show EncS w _ Bx Bs Bn (1 + (pre ++ [x]).length) _
          rw [e]
          exact this
        · go_simp
          have q1 : Hid (Below W.heap.size W ((W.alloc (.cells #[.int .u8 67] 5)).drew)) := (allocB W _).drew
          have y1 : Hid (By ((W.alloc (.cells #[.int .u8 67] 5)).drew) (some ⟨W.heap.size, 0, none⟩) 1 1 [67]) := (by_new W 67 5 (by decide) (by decide)).below ((Below.refl _ _).drew)
          generalize (W.alloc (.cells #[.int .u8 67] 5)).drew = x1 at *
          refine hK.out _ _ ?_ (fun hX => ?_)
          · exact trivial
          clear hK K hX
          try simp only [Act.put, List.setIfInBounds_toArray, List.set_cons_zero, List.set_cons_succ]
          refine wpAnyH_ready (rs := [0, 3]) (by kernel_rfl) (by simp) ?_
          refine cons22 rfl rfl rfl (fun K hK => ?_) (fun K hK => ?_)
          · have hb := boxBelow HV.out q1.out
            have hbc := hb.cell
            go_simp
            refine hK.out _ _ ?_ (fun hX => ?_)
            · exact trivial
            clear hK K hX
            try simp only [Act.put, List.setIfInBounds_toArray, List.set_cons_zero, List.set_cons_succ]
            clear hbc hb
            refine wpAnyH_ready (rs := [3]) (by kernel_rfl) (by simp) ?_
            refine cons2 rfl rfl (fun K hK => ?_)
            go_simp
            have q3 : Hid (Below x1.heap.size x1 (x1.alloc (.cells #[.slice (some ⟨W.heap.size, 0, none⟩) 1 1, .slice (some ⟨b, o + 63 * x.1, none⟩) (chl L x.1) (chl L x.1)] 32))) := allocB x1 _
            have d0 : Hid ((x1.alloc (.cells #[.slice (some ⟨W.heap.size, 0, none⟩) 1 1, .slice (some ⟨b, o + 63 * x.1, none⟩) (chl L x.1) (chl L x.1)] 32)).cell? ⟨x1.heap.size, 0, none⟩ = some (.slice (some ⟨W.heap.size, 0, none⟩) 1 1)) := by
              show _ = _
              rw [cell_of_row _ _ _ _ _ _ (heap_alloc_last x1 _)]; rfl
            have d1 : Hid ((x1.alloc (.cells #[.slice (some ⟨W.heap.size, 0, none⟩) 1 1, .slice (some ⟨b, o + 63 * x.1, none⟩) (chl L x.1) (chl L x.1)] 32)).cell? ⟨x1.heap.size, 1, none⟩ = some (.slice (some ⟨b, o + 63 * x.1, none⟩) (chl L x.1) (chl L x.1))) := by
              show _ = _
              rw [cell_of_row _ _ _ _ _ _ (heap_alloc_last x1 _)]; rfl
            generalize x1.alloc (.cells #[.slice (some ⟨W.heap.size, 0, none⟩) 1 1, .slice (some ⟨b, o + 63 * x.1, none⟩) (chl L x.1) (chl L x.1)] 32) = x3 at *
            refine hK.out _ _ ?_ (fun hX => ?_)
            · exact trivial
            clear hK K hX
            try simp only [Act.put, List.setIfInBounds_toArray, List.set_cons_zero, List.set_cons_succ]
            refine wpAnyH_ready (rs := [4]) (by kernel_rfl) (by simp) ?_
            refine cons2 rfl rfl (fun K hK => ?_)
            go_simp
            refine Calls.mono (Concat2_any x1.heap.size (some ⟨W.heap.size, 0, none⟩) 1 1 [67] _ _ _ ((pay.drop N |>.drop (63 * x.1)).take 63) x3 d0.out d1.out (y1.out.below q3.out) (YC.out.below (nextB q1.out q3.out)) (by decide) (by have := QL.out; omega)) ?_
            rintro e x4 ⟨⟨v4, rfl, o4⟩, b4⟩
            obtain ⟨a4, c4, rfl, y4, s4, -⟩ := o4.by
            have S4 : Hid (∀ z, a4 = some z → W.heap.size ≤ z.block ∧ z.block < x4.heap.size) := fun z hz => by
              have h := s4 z hz
              have := (nextB q1.out q3.out).size
              exact ⟨by omega, h.2⟩
            have q4 : Hid (Below W.heap.size W x4) := nextB (nextB q1.out q3.out) b4
            have Y4 : Hid (By x4 a4 (67 :: (pay.drop N |>.drop (63 * x.1)).take 63 : List Int).length c4 (67 :: (pay.drop N |>.drop (63 * x.1)).take 63 : List Int)) := y4
            have l4 : ([67] ++ (pay.drop N |>.drop (63 * x.1)).take 63 : List Int).length = (67 :: (pay.drop N |>.drop (63 * x.1)).take 63 : List Int).length := rfl
            rw [l4]
            clear o4 y4 s4 b4 l4 d0 d1 y1 q1 q3
            generalize (67 :: (pay.drop N |>.drop (63 * x.1)).take 63 : List Int).length = L4 at *
            go_wp2_with fail
            refine hK.out _ _ ?_ (fun hX => ?_)
            · exact trivial
            clear hK K hX
            try simp only [Act.put, List.setIfInBounds_toArray, List.set_cons_zero, List.set_cons_succ]
            refine wpAnyH_ready (rs := [5]) (by kernel_rfl) (by simp) ?_
            refine cons2 rfl rfl (fun K hK => ?_)
            go_simp
            have q5 : Hid (Below x4.heap.size x4 (x4.alloc (.cells #[.slice a4 L4 c4] 32))) := allocB x4 _
            have n5 : Hid (∀ j u, [Value.slice a4 L4 c4][j]? = some u → (x4.alloc (.cells #[.slice a4 L4 c4] 32)).cell? ((⟨x4.heap.size, 0, none⟩ : Addr).add j) = some u) := fun j u hu => World.news_of_block (heap_alloc_last x4 _) j u hu
            generalize x4.alloc (.cells #[.slice a4 L4 c4] 32) = x5 at *
            refine hK.out _ _ ?_ (fun hX => ?_)
            · exact trivial
            clear hK K hX
            try simp only [Act.put, List.setIfInBounds_toArray, List.set_cons_zero, List.set_cons_succ]
            refine wpAnyH_ready (rs := [6]) (by kernel_rfl) (by simp) ?_
            refine cons2 rfl rfl (fun K hK => ?_)
            refine step_append_lies _ (by rfl) (.tmp 53) (.tmp 58) 57 (by rfl) w.heap.size 32 i0 _ 1 24 Tryd.underlying57 hi hz0 hz1 hz2 rfl (by decide) v (1 + pre.length) vs (by rfl) (ownsBelow HR.out (nextB q4.out q5.out)) ⟨x4.heap.size, 0, none⟩ 1 1 [_] (by rfl) rfl n5.out (fun u hu => by simp at hu; subst hu; rfl) (by decide) (by unfold maxLen; have := PL.out; omega) (by have := PL.out; omega) (by have := EI.out.bel.size; have := (nextB q4.out q5.out).size; omega) _ rfl ?_
            intro g6 cap6 x6 o6 gr6 hat6 _
            have NX : Hid _ := EncS.next EI.out HV.out HR.out HY.out HP.out (nextB q4.out q5.out) (Y4.out.below q5.out) (fun z hz => ⟨(S4.out z hz).1, Nat.lt_of_lt_of_le (S4.out z hz).2 q5.out.size⟩) o6 gr6 hat6 BS.out.1 BS.out.2 F.out.n1 F.out.n2
            clear o6 gr6 hat6 n5 q4 q5 Y4 S4
            refine hK.out _ _ ?_ (fun hX => ?_)
            · exact trivial
            clear hK K hX
            try simp only [Act.put, List.setIfInBounds_toArray, List.set_cons_zero, List.set_cons_succ]
            refine wpAnyH_ready (rs := [7]) (by kernel_rfl) (by simp) ?_
            refine cons2 rfl rfl (fun K hK => ?_)
            have h6 := NX.out.1.cell
            have f6 := NX.out.1.frozen
            go_simp
            refine hK.out _ _ ?_ (fun hX => ?_)
            · exact trivial
            clear hK K hX
            try simp only [Act.put, List.setIfInBounds_toArray, List.set_cons_zero, List.set_cons_succ]
            refine wpAnyH_done (by kernel_rfl) ?_ _
            refine ⟨NX.out.2.2.2.from _, NX.out.2.2.1, ?_, Nat.le_trans WZ.out NX.out.2.2.2.size⟩
            have := NX.out.2.1
            rw [fpre_next] at this
            have e : 1 + (pre ++ [x]).length = 1 + pre.length + 1 := by simp; omega
            show EncS w _ Bx Bs Bn (1 + (pre ++ [x]).length) _
            rw [e]
            exact this
          · go_simp
            have q3 : Hid (Below x1.heap.size x1 (x1.alloc (.cells #[.slice (some ⟨W.heap.size, 0, none⟩) 1 1, .slice (some ⟨b, o + 63 * x.1, none⟩) (chl L x.1) (chl L x.1)] 32))) := allocB x1 _
            have d0 : Hid ((x1.alloc (.cells #[.slice (some ⟨W.heap.size, 0, none⟩) 1 1, .slice (some ⟨b, o + 63 * x.1, none⟩) (chl L x.1) (chl L x.1)] 32)).cell? ⟨x1.heap.size, 0, none⟩ = some (.slice (some ⟨W.heap.size, 0, none⟩) 1 1)) := by
              show _ = _
              rw [cell_of_row _ _ _ _ _ _ (heap_alloc_last x1 _)]; rfl
            have d1 : Hid ((x1.alloc (.cells #[.slice (some ⟨W.heap.size, 0, none⟩) 1 1, .slice (some ⟨b, o + 63 * x.1, none⟩) (chl L x.1) (chl L x.1)] 32)).cell? ⟨x1.heap.size, 1, none⟩ = some (.slice (some ⟨b, o + 63 * x.1, none⟩) (chl L x.1) (chl L x.1))) := by
              show _ = _
              rw [cell_of_row _ _ _ _ _ _ (heap_alloc_last x1 _)]; rfl
            generalize x1.alloc (.cells #[.slice (some ⟨W.heap.size, 0, none⟩) 1 1, .slice (some ⟨b, o + 63 * x.1, none⟩) (chl L x.1) (chl L x.1)] 32) = x3 at *
            refine hK.out _ _ ?_ (fun hX => ?_)
            · exact trivial
            clear hK K hX
            try simp only [Act.put, List.setIfInBounds_toArray, List.set_cons_zero, List.set_cons_succ]
            refine wpAnyH_ready (rs := [0, 4]) (by kernel_rfl) (by simp) ?_
            refine cons22 rfl rfl rfl (fun K hK => ?_) (fun K hK => ?_)
            · have hb := boxBelow HV.out (nextB q1.out q3.out)
              have hbc := hb.cell
              go_simp
              refine hK.out _ _ ?_ (fun hX => ?_)
              · exact trivial
              clear hK K hX
              try simp only [Act.put, List.setIfInBounds_toArray, List.set_cons_zero, List.set_cons_succ]
              clear hbc hb
              refine wpAnyH_ready (rs := [4]) (by kernel_rfl) (by simp) ?_
              refine cons2 rfl rfl (fun K hK => ?_)
              go_simp
              refine Calls.mono (Concat2_any x1.heap.size (some ⟨W.heap.size, 0, none⟩) 1 1 [67] _ _ _ ((pay.drop N |>.drop (63 * x.1)).take 63) x3 d0.out d1.out (y1.out.below q3.out) (YC.out.below (nextB q1.out q3.out)) (by decide) (by have := QL.out; omega)) ?_
              rintro e x4 ⟨⟨v4, rfl, o4⟩, b4⟩
              obtain ⟨a4, c4, rfl, y4, s4, -⟩ := o4.by
              have S4 : Hid (∀ z, a4 = some z → W.heap.size ≤ z.block ∧ z.block < x4.heap.size) := fun z hz => by
                have h := s4 z hz
                have := (nextB q1.out q3.out).size
                exact ⟨by omega, h.2⟩
              have q4 : Hid (Below W.heap.size W x4) := nextB (nextB q1.out q3.out) b4
              have Y4 : Hid (By x4 a4 (67 :: (pay.drop N |>.drop (63 * x.1)).take 63 : List Int).length c4 (67 :: (pay.drop N |>.drop (63 * x.1)).take 63 : List Int)) := y4
              have l4 : ([67] ++ (pay.drop N |>.drop (63 * x.1)).take 63 : List Int).length = (67 :: (pay.drop N |>.drop (63 * x.1)).take 63 : List Int).length := rfl
              rw [l4]
              clear o4 y4 s4 b4 l4 d0 d1 y1 q1 q3
              generalize (67 :: (pay.drop N |>.drop (63 * x.1)).take 63 : List Int).length = L4 at *
              go_wp2_with fail
              refine hK.out _ _ ?_ (fun hX => ?_)
              · exact trivial
              clear hK K hX
              try simp only [Act.put, List.setIfInBounds_toArray, List.set_cons_zero, List.set_cons_succ]
              refine wpAnyH_ready (rs := [5]) (by kernel_rfl) (by simp) ?_
              refine cons2 rfl rfl (fun K hK => ?_)
              go_simp
              have q5 : Hid (Below x4.heap.size x4 (x4.alloc (.cells #[.slice a4 L4 c4] 32))) := allocB x4 _
              have n5 : Hid (∀ j u, [Value.slice a4 L4 c4][j]? = some u → (x4.alloc (.cells #[.slice a4 L4 c4] 32)).cell? ((⟨x4.heap.size, 0, none⟩ : Addr).add j) = some u) := fun j u hu => World.news_of_block (heap_alloc_last x4 _) j u hu
              generalize x4.alloc (.cells #[.slice a4 L4 c4] 32) = x5 at *
              refine hK.out _ _ ?_ (fun hX => ?_)
              · exact trivial
              clear hK K hX
              try simp only [Act.put, List.setIfInBounds_toArray, List.set_cons_zero, List.set_cons_succ]
              refine wpAnyH_ready (rs := [6]) (by kernel_rfl) (by simp) ?_
              refine cons2 rfl rfl (fun K hK => ?_)
              refine step_append_lies _ (by rfl) (.tmp 53) (.tmp 58) 57 (by rfl) w.heap.size 32 i0 _ 1 24 Tryd.underlying57 hi hz0 hz1 hz2 rfl (by decide) v (1 + pre.length) vs (by rfl) (ownsBelow HR.out (nextB q4.out q5.out)) ⟨x4.heap.size, 0, none⟩ 1 1 [_] (by rfl) rfl n5.out (fun u hu => by simp at hu; subst hu; rfl) (by decide) (by unfold maxLen; have := PL.out; omega) (by have := PL.out; omega) (by have := EI.out.bel.size; have := (nextB q4.out q5.out).size; omega) _ rfl ?_
              intro g6 cap6 x6 o6 gr6 hat6 _
              have NX : Hid _ := EncS.next EI.out HV.out HR.out HY.out HP.out (nextB q4.out q5.out) (Y4.out.below q5.out) (fun z hz => ⟨(S4.out z hz).1, Nat.lt_of_lt_of_le (S4.out z hz).2 q5.out.size⟩) o6 gr6 hat6 BS.out.1 BS.out.2 F.out.n1 F.out.n2
              clear o6 gr6 hat6 n5 q4 q5 Y4 S4
              refine hK.out _ _ ?_ (fun hX => ?_)
              · exact trivial
              clear hK K hX
              try simp only [Act.put, List.setIfInBounds_toArray, List.set_cons_zero, List.set_cons_succ]
              refine wpAnyH_ready (rs := [7]) (by kernel_rfl) (by simp) ?_
              refine cons2 rfl rfl (fun K hK => ?_)
              have h6 := NX.out.1.cell
              have f6 := NX.out.1.frozen
              go_simp
              refine hK.out _ _ ?_ (fun hX => ?_)
              · exact trivial
              clear hK K hX
              try simp only [Act.put, List.setIfInBounds_toArray, List.set_cons_zero, List.set_cons_succ]
              refine wpAnyH_done (by kernel_rfl) ?_ _
              refine ⟨NX.out.2.2.2.from _, NX.out.2.2.1, ?_, Nat.le_trans WZ.out NX.out.2.2.2.size⟩
              have := NX.out.2.1
              rw [fpre_next] at this
              have e : 1 + (pre ++ [x]).length = 1 + pre.length + 1 := by simp; omega
              show EncS w _ Bx Bs Bn (1 + (pre ++ [x]).length) _
              rw [e]
              exact this
            · go_simp
              refine Calls.mono (Concat2_any x1.heap.size (some ⟨W.heap.size, 0, none⟩) 1 1 [67] _ _ _ ((pay.drop N |>.drop (63 * x.1)).take 63) x3 d0.out d1.out (y1.out.below q3.out) (YC.out.below (nextB q1.out q3.out)) (by decide) (by have := QL.out; omega)) ?_
              rintro e x4 ⟨⟨v4, rfl, o4⟩, b4⟩
              obtain ⟨a4, c4, rfl, y4, s4, -⟩ := o4.by
              have S4 : Hid (∀ z, a4 = some z → W.heap.size ≤ z.block ∧ z.block < x4.heap.size) := fun z hz => by
                have h := s4 z hz
                have := (nextB q1.out q3.out).size
                exact ⟨by omega, h.2⟩
              have q4 : Hid (Below W.heap.size W x4) := nextB (nextB q1.out q3.out) b4
              have Y4 : Hid (By x4 a4 (67 :: (pay.drop N |>.drop (63 * x.1)).take 63 : List Int).length c4 (67 :: (pay.drop N |>.drop (63 * x.1)).take 63 : List Int)) := y4
              have l4 : ([67] ++ (pay.drop N |>.drop (63 * x.1)).take 63 : List Int).length = (67 :: (pay.drop N |>.drop (63 * x.1)).take 63 : List Int).length := rfl
              rw [l4]
              clear o4 y4 s4 b4 l4 d0 d1 y1 q1 q3
              generalize (67 :: (pay.drop N |>.drop (63 * x.1)).take 63 : List Int).length = L4 at *
              go_wp2_with fail
              refine hK.out _ _ ?_ (fun hX => ?_)
              · exact trivial
              clear hK K hX
              try simp only [Act.put, List.setIfInBounds_toArray, List.set_cons_zero, List.set_cons_succ]
              refine wpAnyH_ready (rs := [0, 5]) (by kernel_rfl) (by simp) ?_
              refine cons22 rfl rfl rfl (fun K hK => ?_) (fun K hK => ?_)
              · have hb := boxBelow HV.out q4.out
                have hbc := hb.cell
                go_simp
                refine hK.out _ _ ?_ (fun hX => ?_)
                · exact trivial
                clear hK K hX
                try simp only [Act.put, List.setIfInBounds_toArray, List.set_cons_zero, List.set_cons_succ]
                clear hbc hb
                refine wpAnyH_ready (rs := [5]) (by kernel_rfl) (by simp) ?_
                refine cons2 rfl rfl (fun K hK => ?_)
                go_simp
                have q5 : Hid (Below x4.heap.size x4 (x4.alloc (.cells #[.slice a4 L4 c4] 32))) := allocB x4 _
                have n5 : Hid (∀ j u, [Value.slice a4 L4 c4][j]? = some u → (x4.alloc (.cells #[.slice a4 L4 c4] 32)).cell? ((⟨x4.heap.size, 0, none⟩ : Addr).add j) = some u) := fun j u hu => World.news_of_block (heap_alloc_last x4 _) j u hu
                generalize x4.alloc (.cells #[.slice a4 L4 c4] 32) = x5 at *
                refine hK.out _ _ ?_ (fun hX => ?_)
                · exact trivial
                clear hK K hX
                try simp only [Act.put, List.setIfInBounds_toArray, List.set_cons_zero, List.set_cons_succ]
                refine wpAnyH_ready (rs := [6]) (by kernel_rfl) (by simp) ?_
                refine cons2 rfl rfl (fun K hK => ?_)
                refine step_append_lies _ (by rfl) (.tmp 53) (.tmp 58) 57 (by rfl) w.heap.size 32 i0 _ 1 24 Tryd.underlying57 hi hz0 hz1 hz2 rfl (by decide) v (1 + pre.length) vs (by rfl) (ownsBelow HR.out (nextB q4.out q5.out)) ⟨x4.heap.size, 0, none⟩ 1 1 [_] (by rfl) rfl n5.out (fun u hu => by simp at hu; subst hu; rfl) (by decide) (by unfold maxLen; have := PL.out; omega) (by have := PL.out; omega) (by have := EI.out.bel.size; have := (nextB q4.out q5.out).size; omega) _ rfl ?_
                intro g6 cap6 x6 o6 gr6 hat6 _
                have NX : Hid _ := EncS.next EI.out HV.out HR.out HY.out HP.out (nextB q4.out q5.out) (Y4.out.below q5.out) (fun z hz => ⟨(S4.out z hz).1, Nat.lt_of_lt_of_le (S4.out z hz).2 q5.out.size⟩) o6 gr6 hat6 BS.out.1 BS.out.2 F.out.n1 F.out.n2
                clear o6 gr6 hat6 n5 q4 q5 Y4 S4
                refine hK.out _ _ ?_ (fun hX => ?_)
                · exact trivial
                clear hK K hX
                try simp only [Act.put, List.setIfInBounds_toArray, List.set_cons_zero, List.set_cons_succ]
                refine wpAnyH_ready (rs := [7]) (by kernel_rfl) (by simp) ?_
                refine cons2 rfl rfl (fun K hK => ?_)
                have h6 := NX.out.1.cell
                have f6 := NX.out.1.frozen
                go_simp
                refine hK.out _ _ ?_ (fun hX => ?_)
                · exact trivial
                clear hK K hX
                try simp only [Act.put, List.setIfInBounds_toArray, List.set_cons_zero, List.set_cons_succ]
                refine wpAnyH_done (by kernel_rfl) ?_ _
                refine ⟨NX.out.2.2.2.from _, NX.out.2.2.1, ?_, Nat.le_trans WZ.out NX.out.2.2.2.size⟩
                have := NX.out.2.1
                rw [fpre_next] at this
                have e : 1 + (pre ++ [x]).length = 1 + pre.length + 1 := by simp; omega
                show EncS w _ Bx Bs Bn (1 + (pre ++ [x]).length) _
                rw [e]
                exact this
              · go_simp
                have q5 : Hid (Below x4.heap.size x4 (x4.alloc (.cells #[.slice a4 L4 c4] 32))) := allocB x4 _
                have n5 : Hid (∀ j u, [Value.slice a4 L4 c4][j]? = some u → (x4.alloc (.cells #[.slice a4 L4 c4] 32)).cell? ((⟨x4.heap.size, 0, none⟩ : Addr).add j) = some u) := fun j u hu => World.news_of_block (heap_alloc_last x4 _) j u hu
                generalize x4.alloc (.cells #[.slice a4 L4 c4] 32) = x5 at *
                refine hK.out _ _ ?_ (fun hX => ?_)
                · exact trivial
                clear hK K hX
                try simp only [Act.put, List.setIfInBounds_toArray, List.set_cons_zero, List.set_cons_succ]
                refine wpAnyH_ready (rs := [0]) (by kernel_rfl) (by simp) ?_
                refine cons2 rfl rfl (fun K hK => ?_)
                have hb := boxBelow HV.out (nextB q4.out q5.out)
                have hbc := hb.cell
                go_simp
                refine hK.out _ _ ?_ (fun hX => ?_)
                · exact trivial
                clear hK K hX
                try simp only [Act.put, List.setIfInBounds_toArray, List.set_cons_zero, List.set_cons_succ]
                clear hbc hb
                refine wpAnyH_ready (rs := [6]) (by kernel_rfl) (by simp) ?_
                refine cons2 rfl rfl (fun K hK => ?_)
                refine step_append_lies _ (by rfl) (.tmp 53) (.tmp 58) 57 (by rfl) w.heap.size 32 i0 _ 1 24 Tryd.underlying57 hi hz0 hz1 hz2 rfl (by decide) v (1 + pre.length) vs (by rfl) (ownsBelow HR.out (nextB q4.out q5.out)) ⟨x4.heap.size, 0, none⟩ 1 1 [_] (by rfl) rfl n5.out (fun u hu => by simp at hu; subst hu; rfl) (by decide) (by unfold maxLen; have := PL.out; omega) (by have := PL.out; omega) (by have := EI.out.bel.size; have := (nextB q4.out q5.out).size; omega) _ rfl ?_
                intro g6 cap6 x6 o6 gr6 hat6 _
                have NX : Hid _ := EncS.next EI.out HV.out HR.out HY.out HP.out (nextB q4.out q5.out) (Y4.out.below q5.out) (fun z hz => ⟨(S4.out z hz).1, Nat.lt_of_lt_of_le (S4.out z hz).2 q5.out.size⟩) o6 gr6 hat6 BS.out.1 BS.out.2 F.out.n1 F.out.n2
                clear o6 gr6 hat6 n5 q4 q5 Y4 S4
                refine hK.out _ _ ?_ (fun hX => ?_)
                · exact trivial
                clear hK K hX
                try simp only [Act.put, List.setIfInBounds_toArray, List.set_cons_zero, List.set_cons_succ]
                refine wpAnyH_ready (rs := [7]) (by kernel_rfl) (by simp) ?_
                refine cons2 rfl rfl (fun K hK => ?_)
                have h6 := NX.out.1.cell
                have f6 := NX.out.1.frozen
                go_simp
                refine hK.out _ _ ?_ (fun hX => ?_)
                · exact trivial
                clear hK K hX
                try simp only [Act.put, List.setIfInBounds_toArray, List.set_cons_zero, List.set_cons_succ]
                refine wpAnyH_done (by kernel_rfl) ?_ _
                refine ⟨NX.out.2.2.2.from _, NX.out.2.2.1, ?_, Nat.le_trans WZ.out NX.out.2.2.2.size⟩
                have := NX.out.2.1
                rw [fpre_next] at this
                have e : 1 + (pre ++ [x]).length = 1 + pre.length + 1 := by simp; omega
                show EncS w _ Bx Bs Bn (1 + (pre ++ [x]).length) _
                rw [e]
                exact this

      case done =>
        rintro D ys W hD rfl ⟨E, WS⟩ hK
        have E2 : EncS w W Bx Bs Bn (fsize m) (fsec kd life num pay) := by
          have e1 : 1 + (firsts L (chs L)).length = fsize m := by rw [firsts_len (Nat.le_refl _)]; exact chs_fsize NN.out LL.out
          rw [e1] at E
          exact E.congr (fun j hj => fpre_all NN.out LL.out hj)
        obtain ⟨bb, cp, bx, sl⟩ := E2.done (fsize_pos m)
        have SL : Hid _ := sl
        have bc := bx.cell
        have DL : Hid (w.heap.size ≤ D) := Nat.le_trans F.out.e.bel.size hD
        clear E E2 sl bx
        go_wp2
        refine ⟨by simp, .inl ⟨_, _, rfl, run_takeDeferred hK, ?_⟩⟩
        exact ⟨_, results_tmp rfl _ _ _, bb, cp, rfl, SL.out.turn (grownBy_putObj' _ D (.deferred none)) ⟨_, hK, rfl⟩ DL.out⟩
      case stop =>
        rintro D c pre W _ _ h _
        exact h.elim

end Go.Proofs.YtblmfkdcahhhbaaDoor
