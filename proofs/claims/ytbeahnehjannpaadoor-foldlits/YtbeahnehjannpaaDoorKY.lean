/- Parts of the proof. -/
import Derived.Test.YtbeahnehjannpaaDoorKC
import Derived.Deep.DeepCutAuto
namespace Go.Proofs.YtbeahnehjannpaaDoor
open Go.RowKit
set_option linter.unusedVariables false
set_option linter.unusedSimpArgs false
def dOk (s:ByteArray) (a:Nat):Bool:=decide (a+10≤s.size∧dEnd s (a+10)=a+10)
theorem dOk_1 {s:ByteArray} {a:Nat} (h:¬ a+10≤s.size):dOk s a=false:=decide_eq_false (fun x=>h x.1)
theorem dOk_2 {s:ByteArray} {a:Nat} (h:a+10=s.size):dOk s a=true:=decide_eq_true ⟨by omega,by unfold dEnd;rw [tl_nil (by omega)];rfl⟩
theorem dOk_3 {s:ByteArray} {a:Nat} (h:a+10<s.size):dOk s a=!dgB (bt s (a+10)).toNat:=by
 unfold dOk dEnd
 rw [runD_cons h]
 cases x:dgB (bt s (a+10)).toNat
 ·exact decide_eq_true ⟨by omega,rfl⟩
 ·exact decide_eq_false (fun y=>by have:=y.2;simp at this)
theorem day_no {s:ByteArray} {a:Nat} (h:dOk s a=false):dayW (tl s a)=none:=by
 by_cases q:a+10≤s.size
 ·rw [dayW_is q,if_pos (fun x=>of_decide_eq_false h ⟨q,x⟩)]
 ·exact dayW_short q
theorem day_yes {s:ByteArray} {a:Nat} (h:dOk s a=true):a+10≤s.size∧dayW (tl s a)=if dB s a then some (dN s a).toNat else none:=by
 obtain ⟨q,x⟩:=of_decide_eq_true h
 refine ⟨q,?_⟩
 rw [dayW_is q,if_neg (fun y=>y x)]
def dtB (s:ByteArray) (E:Nat):Bool:=decide (E<s.size∧(bt s E).toNat=46)
set_option maxRecDepth 100000 in
set_option maxHeartbeats 8000000 in
theorem ydigits_any (s : ByteArray) (a : Nat) (w : World) (ha : a < s.size) (hs : s.size < 9000000000000000) :
    Calls Tryd.prog 36 #[.string s, .int .i64 (a : Nat)] w fun e w' => LgY s a (numW (tl s a)) e ∧ Below w.heap.size w w' := by
  go_enter Tryd.func36, Tryd.ntmps36
  go_upto_region 1 with fail
  have Q0 := X4.new w 58 (.int .i64 0) (.string ⟨#[]⟩) (.int .i64 0) (.int .i64 0)
  generalize (w.alloc _) = w0 at *
  have QH : Hid _ := Q0
  clear Q0
  go_cut [35] from 16 (fun x wx => x = .bool (dOk s a) ∧ wx = w0)
  case first =>
    by_cases q : a + 10 ≤ s.size
    · by_cases q2 : a + 10 = s.size
      · have E := hid (dOk_2 q2)
        have q' : (a : Int) + 10 = (s.size : Int) := by omega
        clear q2
        go_wp2_with fail
        go_meet
        case rel => exact ⟨by rw [E.out], rfl⟩
      · have E := hid (dOk_3 (s := s) (a := a) (by omega))
        have lt : a + 10 < s.size := by omega
        have q' : (((a : Int) + 10) == (s.size : Int)) = false := beqf (by omega)
        have q3 : (a : Int) + 10 ≤ (s.size : Int) := by omega
        have xi := congrArg (fun c : UInt8 => (c.toNat : Int)) (bt_at lt)
        go_wp2_with (go_at_call 34; refine (ydigit_any _ _).mono ?_; rintro e w5 ⟨rfl, rfl⟩)
        go_meet
        case rel => exact ⟨by rw [E.out], rfl⟩
    · have E := hid (dOk_1 q)
      have q' : ¬ (a : Int) + 10 ≤ (s.size : Int) := by omega
      go_wp2_with fail
      go_meet
      case rel => exact ⟨by rw [E.out], rfl⟩
  case rest =>
    obtain ⟨rfl, rfl⟩ := hcut
    go_upto_if 35 with fail
    go_cut [6, 7] from 16 (fun x6 x7 wx => Hid (X4 w wx w.heap.size (.int .i64 0) (.string ⟨#[]⟩) (.int .i64 0) (.int .i64 0)) ∧ Hid (dayW (tl s a) = none))
    case first =>
      cases D : dOk s a
      · have E := hid (day_no D)
        go_wp2_with fail
        go_meet
        case rel => exact ⟨QH, E⟩
      · obtain ⟨q, E0⟩ := day_yes D
        have E := hid E0
        have BD := hid (dN_bd s a)
        have RH := hid fun w => dayRRead (s := s) (a := a) w q
        have q' : (a : Int) + 10 ≤ (s.size : Int) := by omega
        clear E0 D
        generalize dN s a = N at *
        generalize dB s a = B at *
        cases B with
        | false =>
          go_wp2_with (go_at_call 54; with_reducible refine Calls.mono (RH.out _) ?_; rintro e w6 ⟨rfl, hb6⟩)
          go_meet
          case rel => exact ⟨QH.out.next hb6, E.out⟩
        | true =>
          have LG : Hid (LgY s a (numW (tl s a)) (.returned (.tuple #[.agg #[.int .i64 6, .string (s.extract a (a + 10)), .int .i64 N, .int .i64 (a : Nat)], .int .i64 10]))) := by
            have e : N = (N.toNat : Nat) := by rcases BD.out with x | x; · omega
                                               · cases x
            have d : dayW (tl s a) = some N.toNat := E.out
            show LgY _ _ _ _
            unfold numW
            rw [d]
            show _ = _
            rw [← e]
            rfl
          go_upto_region 4 with (go_at_call 54; with_reducible refine Calls.mono (RH.out _) ?_; rintro e w6 ⟨rfl, hb6⟩)
          have QF : Hid _ := QH.out.next hb6
          obtain ⟨c0, c1, c2, c3, cf, _, _⟩ := QF.out
          go_wp2
          have X : Hid _ := QF.out.set (.int .i64 6) (.string (s.extract a (a + 10))) (.int .i64 N) (.int .i64 (a : Nat))
          clear c0 c1 c2 c3 cf
          generalize ((((w6.setCell ⟨w.heap.size, 0, none⟩ (.int .i64 6)).setCell ⟨w.heap.size, 1, none⟩ (.string (s.extract a (a + 10)))).setCell ⟨w.heap.size, 2, none⟩ (.int .i64 N)).setCell ⟨w.heap.size, 3, none⟩ (.int .i64 (a : Nat))) = W8 at *
          obtain ⟨t0, t1, t2, t3, _, tb, _⟩ := X.out
          exact bodyPost_ret (v := .tuple #[.agg #[.int .i64 6, .string (s.extract a (a + 10)), .int .i64 N, .int .i64 (a : Nat)], .int .i64 10]) (by simp [results, Tryd.results36, go_sem, t0, t1, t2, t3]) rfl ⟨LG.out, tb⟩
    case rest =>
      clear QH
      obtain ⟨QH, DN⟩ := hcut
      have k1 : a + rnN s a ≤ s.size := dEnd_le (s := s) (a := a) (by omega)
      have R1 := hid fun w => yrun_any s a w (by omega) (by omega)
      have G1 := hid (show pctB s (a + rnN s a) = true → rtB (rateV (tl s a)) = true → numW (tl s a) = some (5, pctE s (a + rnN s a) + 1 - a, rtV (rateV (tl s a))) from fun hp hv => numY_rate (s := s) (a := a) DN.out hp hv)
      have G2 := hid (show pctB s (a + rnN s a) = true → rtB (rateV (tl s a)) = false → numW (tl s a) = none from fun hp hv => numY_rate_no (s := s) (a := a) DN.out hp hv)
      have G3 := hid (show pctB s (a + rnN s a) = false → nB 4503599627370496 (s.extract a (a + rnN s a)) = true → numW (tl s a) = some (3, rnN s a, nV 4503599627370496 (s.extract a (a + rnN s a))) from fun hp hv => numY_count (s := s) (a := a) DN.out hp hv)
      have G4 := hid (show pctB s (a + rnN s a) = false → nB 4503599627370496 (s.extract a (a + rnN s a)) = false → numW (tl s a) = none from fun hp hv => numY_count_no (s := s) (a := a) DN.out hp hv)
      have RI := hid (show rateV (tl s a) = 10000 * fg (s.extract a (a + rnN s a)) + fig 0 (pad4 (prt s (a + rnN s a))) from rate_is s a)
      have AD := hid (show AllD (s.extract a (a + rnN s a)) from allD_ext (Nat.le_refl _))
      have sx : (s.extract a (a + rnN s a)).size < 9000000000000000000 := by rw [ByteArray.size_extract]; omega
      have PC := hid fun w => ypercent_any (s.extract a (a + rnN s a)) (prt s (a + rnN s a)) w AD.out (prt_len _ _) (prt_dig _ _) sx
      rw [← RI.out] at PC
      have NU := hid (show ∀ w, Calls Tryd.prog 56 #[.string (s.extract a (a + rnN s a)), .int .i64 4503599627370496] w fun e w' => e = .returned (.tuple #[.int .i64 (nV 4503599627370496 (s.extract a (a + rnN s a)) : Nat), .bool (nB 4503599627370496 (s.extract a (a + rnN s a)))]) ∧ w = w' from fun w => ynumber_any (s.extract a (a + rnN s a)) 4503599627370496 w (Nat.le_refl _) AD.out sx)
      obtain ⟨p0, p1⟩ := pctE_le k1
      clear RI AD DN sx
      generalize rnN s a = n at *
      go_upto_region 7 with (go_at_call 37; with_reducible refine Calls.mono (R1.out _) ?_; rintro e w7 ⟨rfl, hb7⟩; have QH := hid (QH.out.next hb7))
      clear hb7 R1
      go_cut [69] from 16 (fun x wx => x = .bool (dtB s (a + n)) ∧ wx = w7)
      case first =>
        by_cases q : a + n < s.size
        · have q' : (a : Int) + (n : Int) < (s.size : Int) := by omega
          have xi := congrArg (fun c : UInt8 => (c.toNat : Int)) (bt_at q)
          by_cases d : ((bt s (a + n)).toNat : Int) = 46
          · have E := hid (show dtB s (a + n) = true from decide_eq_true ⟨q, by omega⟩)
            rw [d] at xi
            clear d
            go_wp2_with fail
            go_meet
            case rel => exact ⟨by rw [show dtB s (a + n) = true from E.out], rfl⟩
          · have E := hid (show dtB s (a + n) = false from decide_eq_false (fun x => d (by omega)))
            have d' : (((bt s (a + n)).toNat : Int) == 46) = false := beqf d
            clear d
            go_wp2_with fail
            go_meet
            case rel => exact ⟨by rw [show dtB s (a + n) = false from E.out], rfl⟩
        · have q' : ¬ (a : Int) + (n : Int) < (s.size : Int) := by omega
          have E := hid (show dtB s (a + n) = false from decide_eq_false (fun x => q x.1))
          go_wp2_with fail
          go_meet
          case rel => exact ⟨by rw [show dtB s (a + n) = false from E.out], rfl⟩
      case rest =>
        obtain ⟨rfl, rfl⟩ := hcut
        go_upto_if 69 with fail
        go_cut [9, 10, 11] from 16 (fun x9 x10 x11 wx => x9 = .string (tx (prt s (a + n))) ∧ x10 = .int .i64 (pctE s (a + n) : Nat) ∧ Hid (X4 w wx w.heap.size (.int .i64 0) (.string ⟨#[]⟩) (.int .i64 0) (.int .i64 0)))
        case first =>
          cases D : dtB s (a + n)
          · have E := hid (pct_nodot (of_decide_eq_false D))
            have F := hid (prt_none E.out)
            go_wp2_with fail
            go_meet
            case rel => exact ⟨by rw [F.out]; rfl, by rw [E.out, Int.natCast_add], QH⟩
          · obtain ⟨q, d⟩ := of_decide_eq_true D
            have E := hid (pct_dot q d)
            have r0 : a + n + 1 + rnN s (a + n + 1) ≤ s.size := dEnd_le (s := s) (a := a + n + 1) q
            have R2 := hid (show ∀ w, Calls Tryd.prog 37 #[.string s, .int .i64 ((a : Int) + (n : Int) + 1)] w fun e w' => e = .returned (.int .i64 (rnN s (a + n + 1) : Nat)) ∧ Below w.heap.size w w' from fun w => by have := yrun_any s (a + n + 1) w (by omega) (by omega); rw [Int.natCast_add, Int.natCast_add] at this; exact this)
            have PS := hid fun h => prt_some (s := s) (E := a + n) h
            have PN := hid fun h => prt_none (s := s) (E := a + n) h
            clear d
            generalize rnN s (a + n + 1) = k at *
            by_cases z : 1 ≤ k ∧ k ≤ 4
            · rw [if_pos z] at E
              obtain ⟨z1, z2⟩ := z
              have F := hid (PS.out (by rw [E.out]; omega))
              rw [E.out] at F
              have z1' : (1 : Int) ≤ (k : Int) := by omega
              have z2' : (k : Int) ≤ 4 := by omega
              go_wp2_with (go_at_call 37; with_reducible refine Calls.mono (R2.out _) ?_; rintro e w8 ⟨rfl, hb8⟩)
              go_meet
              case rel => exact ⟨by rw [← F.out], by rw [E.out, Int.natCast_add, Int.natCast_add, Int.natCast_add]; rfl, QH.out.next hb8⟩
            · rw [if_neg z] at E
              have F := hid (PN.out E.out)
              by_cases z1 : 1 ≤ k
              · have z1' : (1 : Int) ≤ (k : Int) := by omega
                have z2' : ¬ (k : Int) ≤ 4 := by omega
                go_wp2_with (go_at_call 37; with_reducible refine Calls.mono (R2.out _) ?_; rintro e w8 ⟨rfl, hb8⟩)
                go_meet
                case rel => exact ⟨by rw [F.out]; rfl, by rw [E.out, Int.natCast_add], QH.out.next hb8⟩
              · have z1' : ¬ (1 : Int) ≤ (k : Int) := by omega
                go_wp2_with (go_at_call 37; with_reducible refine Calls.mono (R2.out _) ?_; rintro e w8 ⟨rfl, hb8⟩)
                go_meet
                case rel => exact ⟨by rw [F.out]; rfl, by rw [E.out, Int.natCast_add], QH.out.next hb8⟩
        case rest =>
          clear QH
          obtain ⟨rfl, rfl, QH⟩ := hcut
          have PN := hid fun h => pctB_nil (s := s) (a := a + n) h
          have PY := hid fun h => pctB_cons (s := s) (a := a + n) h
          generalize tx (prt s (a + n)) = PT at *
          generalize rateV (tl s a) = RV at *
          generalize pctB s (a + n) = PB at *
          generalize pctE s (a + n) = P at *
          go_upto_region 12 with fail
          go_cut [101] from 16 (fun x wx => x = .bool PB ∧ Hid (X4 w wx w.heap.size (.int .i64 0) (.string ⟨#[]⟩) (.int .i64 0) (.int .i64 0)))
          case first =>
            by_cases q : P < s.size
            · have q' : (P : Int) < (s.size : Int) := by omega
              have xi := congrArg (fun c : UInt8 => (c.toNat : Int)) (bt_at q)
              have E := hid (PY.out q)
              go_wp2_with fail
              go_meet
              case rel => exact ⟨by rw [E.out], QH⟩
            · have q' : ¬ (P : Int) < (s.size : Int) := by omega
              have E := hid (PN.out (by omega))
              go_wp2_with fail
              go_meet
              case rel => exact ⟨by rw [E.out], QH⟩
          case rest =>
            clear QH
            obtain ⟨rfl, QH⟩ := hcut
            have pl : PB = true → P < s.size := fun h => by
              rcases Nat.lt_or_ge P s.size with x | x
              · exact x
              · rw [PN.out x] at h; cases h
            have PL := hid pl
            clear PN PY pl
            have k2 : (a : Int) + (n : Int) ≤ (s.size : Int) := by omega
            have QF := QH
            cases PB with
            | false =>
              have H3 := hid (G3.out rfl)
              have H4 := hid (G4.out rfl)
              clear G1 G2 G3 G4 PC PL
              generalize nV 4503599627370496 (s.extract a (a + n)) = V at *
              generalize nB 4503599627370496 (s.extract a (a + n)) = B at *
              cases B with
              | true =>
                have LG : Hid (LgY s a (numW (tl s a)) (.returned (.tuple #[.agg #[.int .i64 3, .string (s.extract a (a + n)), .int .i64 (V : Nat), .int .i64 (a : Nat)], .int .i64 (n : Nat)]))) := by
                  show LgY _ _ _ _
                  rw [H3.out rfl]
                  rfl
                go_upto_region 20 with (go_at_call 56; with_reducible refine Calls.mono (NU.out _) ?_; rintro e w9 ⟨rfl, rfl⟩)
                obtain ⟨c0, c1, c2, c3, cf, _, _⟩ := QF.out
                go_wp2
                have X : Hid _ := QF.out.set (.int .i64 3) (.string (s.extract a (a + n))) (.int .i64 (V : Nat)) (.int .i64 (a : Nat))
                clear c0 c1 c2 c3 cf
                generalize ((((wc.setCell ⟨w.heap.size, 0, none⟩ (.int .i64 3)).setCell ⟨w.heap.size, 1, none⟩ (.string (s.extract a (a + n)))).setCell ⟨w.heap.size, 2, none⟩ (.int .i64 (V : Nat))).setCell ⟨w.heap.size, 3, none⟩ (.int .i64 (a : Nat))) = W8 at *
                obtain ⟨t0, t1, t2, t3, _, tb, _⟩ := X.out
                exact bodyPost_ret (v := .tuple #[.agg #[.int .i64 3, .string (s.extract a (a + n)), .int .i64 (V : Nat), .int .i64 (a : Nat)], .int .i64 (n : Nat)]) (by simp [results, Tryd.results36, go_sem, t0, t1, t2, t3]) rfl ⟨LG.out, tb⟩
              | false =>
                have LG : Hid (LgY s a (numW (tl s a)) (.returned (.tuple #[.agg #[.int .i64 0, .string ⟨#[]⟩, .int .i64 0, .int .i64 0], .int .i64 0]))) := by
                  show LgY _ _ _ _
                  rw [H4.out rfl]
                  exact ⟨_, _, _, _, rfl⟩
                go_upto_region 19 with (go_at_call 56; with_reducible refine Calls.mono (NU.out _) ?_; rintro e w9 ⟨rfl, rfl⟩)
                obtain ⟨c0, c1, c2, c3, cf, _, _⟩ := QF.out
                go_wp2
                have X : Hid _ := QF.out.set (.int .i64 0) (.string ⟨#[]⟩) (.int .i64 0) (.int .i64 0)
                clear c0 c1 c2 c3 cf
                generalize ((((wc.setCell ⟨w.heap.size, 0, none⟩ (.int .i64 0)).setCell ⟨w.heap.size, 1, none⟩ (.string ⟨#[]⟩)).setCell ⟨w.heap.size, 2, none⟩ (.int .i64 0)).setCell ⟨w.heap.size, 3, none⟩ (.int .i64 0)) = W8 at *
                obtain ⟨t0, t1, t2, t3, _, tb, _⟩ := X.out
                exact bodyPost_ret (v := .tuple #[.agg #[.int .i64 0, .string ⟨#[]⟩, .int .i64 0, .int .i64 0], .int .i64 0]) (by simp [results, Tryd.results36, go_sem, t0, t1, t2, t3]) rfl ⟨LG.out, tb⟩
            | true =>
              have H1 := hid (G1.out rfl)
              have H2 := hid (G2.out rfl)
              have pl : P < s.size := PL.out rfl
              have ap : a ≤ P := by omega
              clear G1 G2 G3 G4 NU PL
              generalize rtV RV = V at *
              generalize rtB RV = B at *
              cases B with
              | true =>
                have LG : Hid (LgY s a (numW (tl s a)) (.returned (.tuple #[.agg #[.int .i64 5, .string (s.extract a (P + 1)), .int .i64 (V : Nat), .int .i64 (a : Nat)], .int .i64 ((P : Int) + 1 - (a : Int))]))) := by
                  show LgY _ _ _ _
                  rw [H1.out rfl]
                  show _ = _
                  have e1 : a + (P + 1 - a) = P + 1 := by omega
                  have e2 : (P : Int) + 1 - (a : Int) = ((P + 1 - a : Nat) : Int) := by omega
                  rw [e1, e2]
                  rfl
                have z1 : (a : Int) ≤ (P : Int) := by omega
                go_upto_region 16 with (go_at_call 55; with_reducible refine Calls.mono (PC.out _) ?_; rintro e w9 ⟨rfl, rfl⟩)
                obtain ⟨c0, c1, c2, c3, cf, _, _⟩ := QF.out
                go_wp2
                have X : Hid _ := QF.out.set (.int .i64 5) (.string (s.extract a (P + 1))) (.int .i64 (V : Nat)) (.int .i64 (a : Nat))
                clear c0 c1 c2 c3 cf
                generalize ((((wc.setCell ⟨w.heap.size, 0, none⟩ (.int .i64 5)).setCell ⟨w.heap.size, 1, none⟩ (.string (s.extract a (P + 1)))).setCell ⟨w.heap.size, 2, none⟩ (.int .i64 (V : Nat))).setCell ⟨w.heap.size, 3, none⟩ (.int .i64 (a : Nat))) = W8 at *
                obtain ⟨t0, t1, t2, t3, _, tb, _⟩ := X.out
                exact bodyPost_ret (v := .tuple #[.agg #[.int .i64 5, .string (s.extract a (P + 1)), .int .i64 (V : Nat), .int .i64 (a : Nat)], .int .i64 ((P : Int) + 1 - (a : Int))]) (by simp [results, Tryd.results36, go_sem, t0, t1, t2, t3]) rfl ⟨LG.out, tb⟩
              | false =>
                have LG : Hid (LgY s a (numW (tl s a)) (.returned (.tuple #[.agg #[.int .i64 0, .string ⟨#[]⟩, .int .i64 0, .int .i64 0], .int .i64 0]))) := by
                  show LgY _ _ _ _
                  rw [H2.out rfl]
                  exact ⟨_, _, _, _, rfl⟩
                go_upto_region 15 with (go_at_call 55; with_reducible refine Calls.mono (PC.out _) ?_; rintro e w9 ⟨rfl, rfl⟩)
                obtain ⟨c0, c1, c2, c3, cf, _, _⟩ := QF.out
                go_wp2
                have X : Hid _ := QF.out.set (.int .i64 0) (.string ⟨#[]⟩) (.int .i64 0) (.int .i64 0)
                clear c0 c1 c2 c3 cf
                generalize ((((wc.setCell ⟨w.heap.size, 0, none⟩ (.int .i64 0)).setCell ⟨w.heap.size, 1, none⟩ (.string ⟨#[]⟩)).setCell ⟨w.heap.size, 2, none⟩ (.int .i64 0)).setCell ⟨w.heap.size, 3, none⟩ (.int .i64 0)) = W8 at *
                obtain ⟨t0, t1, t2, t3, _, tb, _⟩ := X.out
                exact bodyPost_ret (v := .tuple #[.agg #[.int .i64 0, .string ⟨#[]⟩, .int .i64 0, .int .i64 0], .int .i64 0]) (by simp [results, Tryd.results36, go_sem, t0, t1, t2, t3]) rfl ⟨LG.out, tb⟩
end Go.Proofs.YtbeahnehjannpaaDoor
