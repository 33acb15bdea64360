/- The walk over publicanref4: Decode, a leaf. -/
import Derived.Test.YtfedcghkohfhlaaV5
namespace Go.Proofs.Ytfedcghkohfhlaa
open Go.RowKit
set_option linter.unusedVariables false
set_option linter.unusedSimpArgs false

set_option maxRecDepth 100000 in
set_option maxHeartbeats 8000000 in
theorem kDecode_leaf (a : Option Addr) (n cap : Nat) (r : List Int) (w : World) (h : By w a n cap (76 :: r)) (hn : n ≤ 80000) :
    Calls Try.prog 20 #[.slice a n cap] w fun e w' => KecP w w' e (dcd (76 :: r)) := by
  rw [dcd_76]
  have hl := h.len
  simp only [List.length_cons] at hl
  have n0 : 0 < n := by omega
  obtain ⟨b, o, h1, h2⟩ := h.cell
  obtain rfl := h1 n0
  have e1 := h2 0 n0
  simp only [List.getD_cons_zero, Nat.add_zero] at e1
  have n0' : ((n : Int) == 0) = false := beq_eq_false_iff_ne.2 (by omega)
  have n1' : (0 : Int) < (n : Int) := by omega
  have n1'' : (1 : Int) ≤ (n : Int) := by omega
  have hf := h.fits
  have cap1 : (1 : Int) ≤ (cap : Int) := by omega
  have bl : b < w.heap.size := World.block_lt_of_cell? _ _ e1
  have hB : Bys r := h.ok.cons.2
  have HB : Hid _ := hB
  obtain ⟨O, CF, hO⟩ := cut_from Try.underlying30 byteInfo b o n cap 1 1 rfl n0 hf
  have H1 : Hid (By w (some ⟨b, O, none⟩) (n - 1) (cap - 1) r) := h.drop (k := 1) n0 hO
  have HO : Hid _ := hO
  have LR : Hid (r.length + 1 = n ∧ n ≤ 80000) := by show _ ∧ _; omega
  have W64 : IntKind.u64.wrap (n : Int) = (n : Int) := by rw [IntKind.wrap_u64]; omega
  clear h h1 h2 hl hB hO
  go_enter Try.func20, Try.ntmps20
  go_upto_region 4 with fail
  have BW : Hid (∀ o1 o2 : Obj, Below w.heap.size w ((w.alloc o1).alloc o2)) := fun o1 o2 => nextB (allocB w o1) (allocB _ o2)
  have DM : Hid (∀ rp rq wx, Below (w.heap.size + 2) ((w.alloc (.cells #[.bool false, (.slice none 0 0), (.slice none 0 0), (.slice none 0 0)] 35)).alloc (.cells #[.bool true, (.slice none 0 0), (.slice none 0 0), (.slice none 0 0)] 35)) wx → Rd wx rp rq false r → w.heap.size + 2 ≤ rp → rp < wx.heap.size → rq < wx.heap.size → (rq = 0 ∨ w.heap.size + 2 ≤ rq) → Dm w wx.heap.size w.heap.size (w.heap.size + 1) rp rq true (.slice none 0 0) (.slice none 0 0) (.slice none 0 0) [] [] [] false r wx) := fun rp rq wx hb rd l1 l2 l3 l4 => by
    obtain ⟨WW, hWW⟩ : ∃ WW, WW = (w.alloc (.cells #[.bool false, (.slice none 0 0), (.slice none 0 0), (.slice none 0 0)] 35)).alloc (.cells #[.bool true, (.slice none 0 0), (.slice none 0 0), (.slice none 0 0)] 35) := ⟨_, rfl⟩
    have sz : WW.heap.size = w.heap.size + 2 := by rw [hWW]; simp
    have q1 : B4 WW w.heap.size (.bool false) (.slice none 0 0) (.slice none 0 0) (.slice none 0 0) := by rw [hWW]; exact (B4.new w _ _ _ _ _).below (allocB _ _)
    have q2 : B4 WW (w.heap.size + 1) (.bool true) (.slice none 0 0) (.slice none 0 0) (.slice none 0 0) := by
      have q := B4.new (w.alloc (.cells #[.bool false, (.slice none 0 0), (.slice none 0 0), (.slice none 0 0)] 35)) (.bool true) (.slice none 0 0) (.slice none 0 0) (.slice none 0 0) 35
      rw [World.size_alloc] at q
      rw [hWW]; exact q
    have f1 : ∀ o, WW.frozen? ⟨w.heap.size, o, none⟩ = false := fun o => by rw [hWW]; simp
    have f2 : ∀ o, WW.frozen? ⟨w.heap.size + 1, o, none⟩ = false := fun o => by rw [hWW]; simp
    have b0 : Below w.heap.size w WW := by rw [hWW]; exact BW.out _ _
    rw [← hWW] at hb
    have hb' : Below WW.heap.size WW wx := by rw [sz]; exact hb
    have hs := hb'.size
    exact ⟨q2.below hb', frozen_kept f2 (hb'.block _ q2.lt), q1.below hb', frozen_kept f1 (hb'.block _ q1.lt), Ow.nil _ _ _, Ow.nil _ _ _, Ow.nil _ _ _, fun g e => (by cases e), fun g e => (by cases e), fun g e => (by cases e), rd, ⟨⟨by omega, by omega, l2, l3⟩, ⟨by omega, by omega, by omega⟩, by omega⟩, nextB b0 hb', ⟨by omega, by omega, by omega, by omega⟩, Nat.le_refl _⟩
  go_cut [5] from 30 to 35 (fun s wx => ∃ rp rq, s = .pointer (some ⟨rp, 0, none⟩) ∧ Hid (Dm w wx.heap.size w.heap.size (w.heap.size + 1) rp rq true (.slice none 0 0) (.slice none 0 0) (.slice none 0 0) [] [] [] false r wx))
  case first =>
    obtain ⟨W2, hW2⟩ : ∃ W2, (w.alloc (.cells #[.bool false, (.slice none 0 0), (.slice none 0 0), (.slice none 0 0)] 35)).alloc (.cells #[.bool true, (.slice none 0 0), (.slice none 0 0), (.slice none 0 0)] 35) = W2 := ⟨_, rfl⟩
    have Y0 : Hid (By W2 (some ⟨b, O, none⟩) (n - 1) (cap - 1) r) := by rw [← hW2]; exact H1.out.below (BW.out _ _)
    have Z2 : W2.heap.size = w.heap.size + 2 := by rw [← hW2]; simp
    have Z2' : Hid _ := Z2
    rw [hW2] at DM ⊢
    have HW2 : Hid _ := hW2
    clear hW2 Z2
    go_wp2_with (at_builtin; refine wpList_append_by rfl (.tmp 30) (.tmp 32) rfl W2.heap.size _ [] rfl (own_empty W2) (some ⟨b, O, none⟩) (n - 1) (cap - 1) r rfl (Y0.out.below (allocB W2 _)) (by simp; omega) (by simp) ?_; intro v1 w1 o1 g1; rw [List.nil_append] at o1; have b1 : Hid (Below W2.heap.size W2 w1) := (allocB W2 _).grown g1 (by simp) (fun k hk => ((own_empty W2).row.lt k hk).1); obtain ⟨a1, cap1', rfl, y1, s1, hh1⟩ := o1.by; have RD : Hid _ := rd_new3 71 (w := W2) (by have := Z2'.out; omega) y1 s1 hh1 b1.out; clear o1 g1 y1 s1 hh1)
    go_meet
    obtain ⟨rq, rd, l3, l4⟩ := RD.out
    have z1 := b1.out.size
    have z2 := Z2'.out
    refine ⟨w1.heap.size, rq, rfl, DM.out w1.heap.size rq _ ?_ rd (by omega) (by simp) (by simp; omega) (by omega)⟩
    rw [← z2]
    exact nextB b1.out (allocB _ _)
  case rest =>
    obtain ⟨rp, rq, rfl, hD⟩ := hcut
    clear DM BW H1 CF
    have KU : Hid _ := wU_any rp rq false r wc hD.out.rd (by have := LR.out; omega)
    go_wp2_with fail
    refine Calls.mono KU.out ?_
    rintro e w2 ⟨rfl, r2, g2⟩
    rw [Bool.false_or] at r2
    have hD2 : Hid _ := hD.out.read r2 g2
    have RI0 : Hid _ := RJ.start true HB.out
    have NL : Hid (r.length < rU r → dcdB true r = none) := fun q => dcdB_none (rdH_len true HB.out q)
    have U64 : rU r < 18446744073709551616 := rU_lt HB.out
    generalize hb0 : wc.heap.size = base at *
    have HB0 : Hid _ := hb0
    clear hb0 hD KU r2 g2
    obtain ⟨u, hu⟩ : ∃ u, u = rU r := ⟨_, rfl⟩
    obtain ⟨bd, hbd⟩ : ∃ bd, bd = rB r := ⟨_, rfl⟩
    obtain ⟨cu, hcu⟩ : ∃ cu, cu = rR r := ⟨_, rfl⟩
    rw [← hu] at RI0 U64 NL ⊢
    rw [← hbd] at RI0 hD2
    rw [← hcu] at RI0 hD2
    have EQ : Hid _ := And.intro hu (And.intro hbd hcu)
    clear hu hbd hcu
    by_cases ub : n < u
    · have ub' : (n : Int) < (u : Int) := by omega
      have TN : Hid (dcdB true r = none) := NL.out (by have := LR.out; omega)
      have x0 := hD2.out.res.a0
      have x1 := hD2.out.res.a1
      have x2 := hD2.out.res.a2
      have x3 := hD2.out.res.a3
      have xz := hD2.out.rz
      have lr0 := hD2.out.old
      go_wp2_with fail
      have X : Hid _ := stored4 hD2.out.res (.bool false) (.slice none 0 0) (.slice none 0 0) (.slice none 0 0)
      have B8 : Hid (Below w.heap.size w ((((w2.setCell ⟨w.heap.size, 0, none⟩ (.bool false)).setCell ⟨w.heap.size, 1, none⟩ (.slice none 0 0)).setCell ⟨w.heap.size, 2, none⟩ (.slice none 0 0)).setCell ⟨w.heap.size, 3, none⟩ (.slice none 0 0))) := hD2.out.bel.grown X.out.2 hD2.out.bel.size (fun k hk => by injection hk with hk; omega)
      generalize ((((w2.setCell ⟨w.heap.size, 0, none⟩ (.bool false)).setCell ⟨w.heap.size, 1, none⟩ (.slice none 0 0)).setCell ⟨w.heap.size, 2, none⟩ (.slice none 0 0)).setCell ⟨w.heap.size, 3, none⟩ (.slice none 0 0)) = W8 at *
      obtain ⟨⟨t0, t1, t2, t3⟩, _⟩ := X.out
      exact bodyPost_ret (v := .tuple #[.agg #[.bool false, (.slice none 0 0), (.slice none 0 0), (.slice none 0 0)], .bool false]) (by simp [results, Try.results20, go_sem, t0, t1, t2, t3]) rfl (KecP.mk0 TN.out rfl B8.out)
    have ub' : ¬ (n : Int) < (u : Int) := by omega
    have un : u ≤ 80000 := by omega
    have I64 : IntKind.i64.wrap (u : Int) = (u : Int) := by rw [IntKind.wrap_i64]; omega
    go_wp2_with fail
    go_loopg [7] u (fun g iv wr => ∃ (i : Nat) (bad : Bool) (cur : List Int) (ks vs : List ByteArray) (kk vv : Value), iv = .int .i64 (i : Nat) ∧ g = u - i ∧ i ≤ u ∧ Hid (Dm w base w.heap.size (w.heap.size + 1) rp rq true kk vv (.slice none 0 0) ks vs [] bad cur wr) ∧ Hid (RJ (rdH true r) true r.length i (u - i) bad cur ks vs))
    case atStart => exact ⟨0, bd, cu, [], [], _, _, rfl, rfl, Nat.zero_le _, hD2.out, RI0.out⟩
    case round =>
      obtain ⟨i, bad, cur, ks, vs, kk, vv, rfl, rfl, hi, hD, hR⟩ := hrel
      clear hD2 RI0 U64
      have CL : Hid (cur.length ≤ 100000) := by
        have := hR.out.len
        have := LR.out
        show _ ≤ _
        omega
      have KL : Hid (ks.length ≤ 80002 ∧ vs.length ≤ 80002 ∧ tot ks ≤ 80002 ∧ tot vs ≤ 80002) := by
        have := hR.out.len
        have := hR.out.cnt
        have := LR.out
        have q2 : vs.length ≤ ks.length := by
          cases hlf : true with
          | true => exact Nat.le_of_eq (hR.out.even (by first | rfl | exact absurd hlf (by decide)))
          | false => rw [hR.out.odd (by first | rfl | exact absurd hlf (by decide))]; exact Nat.zero_le _
        show _ ∧ _
        refine ⟨by omega, by omega, by omega, by omega⟩
      by_cases iu : i < u
      · have iu' : (i : Int) < (u : Int) := by omega
        obtain ⟨m, hm1⟩ : ∃ m, u - i = m + 1 := ⟨u - i - 1, by omega⟩
        have HM : Hid _ := hm1
        have e0' := hD.out.box.a0
        clear hm1
        go_upto_region 11 with fail
        go_cut [] from 50 to 56 (fun wx => ∃ k3, Hid (Dm w base w.heap.size (w.heap.size + 1) rp rq true k3 vv (.slice none 0 0) (ks ++ [strOfNums (tU cur)]) vs [] (bad || tB cur) (tR cur) wx))
        case first =>
          have K : Hid _ := wS_any rp rq bad cur wr.drew hD.out.drew.rd CL.out
          have c1 := hD.out.box.a1
          have zp := hD.out.box.lt
          have fp := hD.out.fz
          generalize strOfNums (tU cur) = s at *
          go_wp2
          go_region_law (first | (refine step_append_sa 23 9 (.string ByteArray.empty) 16 Try.underlying23 strInfo rfl (by decide) (by rfl) (.tmp 51) (.tmp 54) (by rfl) base _ (sv ks) (by rfl) (D2.out.ok.below (allocB w2 _)) (some ⟨w2.heap.size, 0, none⟩) 1 1 [.string s] (by rfl) (sl_new w2 _ _ rfl) (by rw [sv_len]; have := KL.out; omega) (by have := D2.out.bas; simp; omega) ?_; intro k3 w3 o3 g3 l3; obtain ⟨L3, a3, c3, rfl⟩ : ∃ L3 a3 c3, k3 = .slice a3 L3 c3 := (by obtain ⟨a3, c3, e3, _⟩ := o3.sl; exact ⟨_, _, _, e3⟩); have NX : Hid _ := (D2.out.below (allocB w2 _)).key o3 g3 l3; have XX := (D2.out.below (allocB w2 (.cells #[.string s] 9))).row (D2.out.ok.below (allocB w2 _)) g3; have y1 := XX.1.a1; have y2 := XX.2.1; clear XX o3 g3 l3) | (go_simp; go_at_call 47; refine Calls.mono K.out ?_; rintro e w2 ⟨rfl, r2, g2⟩; have D2 : Hid _ := hD.out.drew.read r2 g2; have d1 := D2.out.box.a1; have d2 := D2.out.fz; have d3 := D2.out.box.lt; clear r2 g2))
          all_goals go_wp2
          all_goals go_meet
          all_goals exact ⟨_, NX.out⟩
        case rest =>
          obtain ⟨k3, hE⟩ := hcut
          have e0 := hE.out.box.a0
          have RR : Hid _ := (show RJ (rdH true r) true r.length i (m + 1) bad cur ks vs by rw [← HM.out]; exact hR.out).leaf
          have CL2 : Hid ((tR cur).length ≤ 100000) := by
            have := CL.out
            have := tlen hR.out.bys
            show _ ≤ _
            omega
          clear CL hD e0'
          have CL := CL2
          obtain ⟨cu2, hcu2⟩ : ∃ cu2, cu2 = tR cur := ⟨_, rfl⟩
          obtain ⟨b2, hb2⟩ : ∃ b2, b2 = (bad || tB cur) := ⟨_, rfl⟩
          rw [← hcu2, ← hb2] at hE RR
          rw [← hcu2] at CL
          have EQ2 : Hid _ := And.intro hcu2 hb2
          clear hcu2 hb2 CL2
          go_upto_region 13 with fail
          have K : Hid _ := wS_any rp rq b2 cu2 wc.drew hE.out.drew.rd CL.out
          have c1 := hE.out.box.a2
          have zp := hE.out.box.lt
          have fp := hE.out.fz
          generalize strOfNums (tU cu2) = s at *
          go_wp2
          go_region_law (first | (refine step_append_sa 23 9 (.string ByteArray.empty) 16 Try.underlying23 strInfo rfl (by decide) (by rfl) (.tmp 60) (.tmp 63) (by rfl) base _ (sv vs) (by rfl) (D2.out.ov.below (allocB w2 _)) (some ⟨w2.heap.size, 0, none⟩) 1 1 [.string s] (by rfl) (sl_new w2 _ _ rfl) (by rw [sv_len]; have := KL.out; omega) (by have := D2.out.bas; simp; omega) ?_; intro k3 w3 o3 g3 l3; obtain ⟨L3, a3, c3, rfl⟩ : ∃ L3 a3 c3, k3 = .slice a3 L3 c3 := (by obtain ⟨a3, c3, e3, _⟩ := o3.sl; exact ⟨_, _, _, e3⟩); have NX : Hid _ := (D2.out.below (allocB w2 _)).val o3 g3 l3; have XX := (D2.out.below (allocB w2 (.cells #[.string s] 9))).row (D2.out.ov.below (allocB w2 _)) g3; have y1 := XX.1.a2; have y2 := XX.2.1; clear XX o3 g3 l3) | (go_simp; go_at_call 47; refine Calls.mono K.out ?_; rintro e w2 ⟨rfl, r2, g2⟩; have D2 : Hid _ := hE.out.drew.read r2 g2; have d1 := D2.out.box.a2; have d2 := D2.out.fz; have d3 := D2.out.box.lt; clear r2 g2))
          all_goals go_wp2_with fail
          all_goals
            go_roundg (u - (i + 1))
            case measure => omega
            case rel => exact ⟨i + 1, _, _, _, _, _, _, by go_num, rfl, by omega, NX.out, by have e : u - (i + 1) = m := (by have := HM.out; omega); rw [e]; exact RR.out⟩
      · have iu' : ¬ (i : Int) < (u : Int) := by omega
        have hR0 : Hid (RJ (rdH true r) true r.length i 0 bad cur ks vs) := by have := hR.out; rw [show u - i = 0 by omega] at this; exact this
        cases bad with
        | true =>
          have TN : Hid (dcdB true r = none) := dcdB_none (hR.out.no rfl).1
          have x0 := hD.out.res.a0
          have x1 := hD.out.res.a1
          have x2 := hD.out.res.a2
          have x3 := hD.out.res.a3
          have xz := hD.out.rz
          have lr0 := hD.out.old
          have q0 := hD.out.box.a0
          have q1 := hD.out.box.a1
          have q2 := hD.out.box.a2
          have q3 := hD.out.box.a3
          have rb := hD.out.rd.bad
          go_wp2_with fail
          go_rounds 1
          have X : Hid _ := stored4 hD.out.res (.bool false) (.slice none 0 0) (.slice none 0 0) (.slice none 0 0)
          have B8 : Hid (Below w.heap.size w ((((wr.setCell ⟨w.heap.size, 0, none⟩ (.bool false)).setCell ⟨w.heap.size, 1, none⟩ (.slice none 0 0)).setCell ⟨w.heap.size, 2, none⟩ (.slice none 0 0)).setCell ⟨w.heap.size, 3, none⟩ (.slice none 0 0))) := hD.out.bel.grown X.out.2 hD.out.bel.size (fun k hk => by injection hk with hk; omega)
          generalize ((((wr.setCell ⟨w.heap.size, 0, none⟩ (.bool false)).setCell ⟨w.heap.size, 1, none⟩ (.slice none 0 0)).setCell ⟨w.heap.size, 2, none⟩ (.slice none 0 0)).setCell ⟨w.heap.size, 3, none⟩ (.slice none 0 0)) = W8 at *
          obtain ⟨⟨t0, t1, t2, t3⟩, _⟩ := X.out
          exact bodyPost_ret (v := .tuple #[.agg #[.bool false, (.slice none 0 0), (.slice none 0 0), (.slice none 0 0)], .bool false]) (by simp [results, Try.results20, go_sem, t0, t1, t2, t3]) rfl (KecP.mk0 TN.out rfl B8.out)
        | false =>
          have TS : Hid (dcdB true r = fin ⟨true, ks, vs, []⟩ cur) := dcdB_leaf hR0.out.done
          have x0 := hD.out.res.a0
          have x1 := hD.out.res.a1
          have x2 := hD.out.res.a2
          have x3 := hD.out.res.a3
          have xz := hD.out.rz
          have lr0 := hD.out.old
          have q0 := hD.out.box.a0
          have q1 := hD.out.box.a1
          have q2 := hD.out.box.a2
          have q3 := hD.out.box.a3
          have rb := hD.out.rd.bad
          obtain ⟨ra, rn, rc, rb0, rby, rhh⟩ := hD.out.rd.ex
          have rl := rby.len
          have RBY : Hid _ := And.intro rby rhh
          clear rby rhh
          by_cases c0 : 0 < rn
          · have c0' : (0 : Int) < (rn : Int) := by omega
            have TN : Hid (dcdB true r = none) := by show _ = _; rw [TS.out]; exact fin_no1 (by omega)
            have RL : Hid _ := rl
            clear rl
            go_wp2_with fail
            go_rounds 1
            have X : Hid _ := stored4 hD.out.res (.bool false) (.slice none 0 0) (.slice none 0 0) (.slice none 0 0)
            have B8 : Hid (Below w.heap.size w ((((wr.setCell ⟨w.heap.size, 0, none⟩ (.bool false)).setCell ⟨w.heap.size, 1, none⟩ (.slice none 0 0)).setCell ⟨w.heap.size, 2, none⟩ (.slice none 0 0)).setCell ⟨w.heap.size, 3, none⟩ (.slice none 0 0))) := hD.out.bel.grown X.out.2 hD.out.bel.size (fun k hk => by injection hk with hk; omega)
            generalize ((((wr.setCell ⟨w.heap.size, 0, none⟩ (.bool false)).setCell ⟨w.heap.size, 1, none⟩ (.slice none 0 0)).setCell ⟨w.heap.size, 2, none⟩ (.slice none 0 0)).setCell ⟨w.heap.size, 3, none⟩ (.slice none 0 0)) = W8 at *
            obtain ⟨⟨t0, t1, t2, t3⟩, _⟩ := X.out
            exact bodyPost_ret (v := .tuple #[.agg #[.bool false, (.slice none 0 0), (.slice none 0 0), (.slice none 0 0)], .bool false]) (by simp [results, Try.results20, go_sem, t0, t1, t2, t3]) rfl (KecP.mk0 TN.out rfl B8.out)
          · have c0' : ¬ (0 : Int) < (rn : Int) := by omega
            have C0 : Hid (cur.length = 0) := by show _ = _; omega
            have RL : Hid _ := rl
            clear rl
            have FY : Hid (goodB ⟨true, ks, vs, []⟩ = true → dcdB true r = some ⟨true, ks, vs, []⟩) := fun g => by rw [TS.out]; exact fin_yes C0.out g
            have PG : Hid (Pv wr (.agg #[.bool true, kk, vv, (.slice none 0 0)]) ⟨true, ks, vs, []⟩) := hD.out.page (fun k hk => by simp at hk)
            have BD : Hid (Bd ⟨true, ks, vs, []⟩) := by
              have q3 := KL.out
              exact ⟨by simp only; omega, by simp only; omega, (by simp), by simp only; omega, by simp only; omega, (fun k hk => by simp at hk)⟩
            have KG : Hid _ := kGood_any _ ⟨true, ks, vs, []⟩ wr PG.out BD.out
            obtain ⟨gd, hgd⟩ : ∃ gd, gd = goodB ⟨true, ks, vs, []⟩ := ⟨_, rfl⟩
            rw [← hgd] at KG
            have HG : Hid _ := hgd
            clear hgd
            go_wp2_with fail
            refine wp_loop_rounds 1 ?_
            rw [rounds_succ]
            cases gd with
            | false =>
              have TN : Hid (dcdB true r = none) := by show _ = _; rw [TS.out]; exact fin_no2 HG.out.symm
              go_wp2_with (go_at_call 15; refine Calls.mono KG.out ?_; rintro e w5 ⟨rfl, b5⟩; have D5 : Hid _ := hD.out.below b5; have y0 := D5.out.res.a0; have y1 := D5.out.res.a1; have y2 := D5.out.res.a2; have y3 := D5.out.res.a3; have yz := D5.out.rz)
              have X : Hid _ := stored4 D5.out.res (.bool false) (.slice none 0 0) (.slice none 0 0) (.slice none 0 0)
              have B8 : Hid (Below w.heap.size w ((((w5.setCell ⟨w.heap.size, 0, none⟩ (.bool false)).setCell ⟨w.heap.size, 1, none⟩ (.slice none 0 0)).setCell ⟨w.heap.size, 2, none⟩ (.slice none 0 0)).setCell ⟨w.heap.size, 3, none⟩ (.slice none 0 0))) := D5.out.bel.grown X.out.2 D5.out.bel.size (fun k hk => by injection hk with hk; omega)
              generalize ((((w5.setCell ⟨w.heap.size, 0, none⟩ (.bool false)).setCell ⟨w.heap.size, 1, none⟩ (.slice none 0 0)).setCell ⟨w.heap.size, 2, none⟩ (.slice none 0 0)).setCell ⟨w.heap.size, 3, none⟩ (.slice none 0 0)) = W8 at *
              obtain ⟨⟨t0, t1, t2, t3⟩, _⟩ := X.out
              exact bodyPost_ret (v := .tuple #[.agg #[.bool false, (.slice none 0 0), (.slice none 0 0), (.slice none 0 0)], .bool false]) (by simp [results, Try.results20, go_sem, t0, t1, t2, t3]) rfl (KecP.mk0 TN.out rfl B8.out)
            | true =>
              have TY : Hid (dcdB true r = some ⟨true, ks, vs, []⟩) := FY.out HG.out.symm
              obtain ⟨L1, A1, C1, rfl⟩ : ∃ L1 A1 C1, kk = .slice A1 L1 C1 := by obtain ⟨a3, c3, e3, _⟩ := hD.out.ok.sl; exact ⟨_, _, _, e3⟩
              obtain ⟨L2, A2, C2, rfl⟩ : ∃ L2 A2 C2, vv = .slice A2 L2 C2 := by obtain ⟨a3, c3, e3, _⟩ := hD.out.ov.sl; exact ⟨_, _, _, e3⟩
              go_wp2_with (go_at_call 15; refine Calls.mono KG.out ?_; rintro e w5 ⟨rfl, b5⟩; have D5 : Hid _ := hD.out.below b5; have y0 := D5.out.res.a0; have y1 := D5.out.res.a1; have y2 := D5.out.res.a2; have y3 := D5.out.res.a3; have yz := D5.out.rz; have p0 := D5.out.box.a0; have p1 := D5.out.box.a1; have p2 := D5.out.box.a2; have p3 := D5.out.box.a3)
              have X : Hid _ := stored4 D5.out.res (.bool true) (.slice A1 L1 C1) (.slice A2 L2 C2) (.slice none 0 0)
              have B8 : Hid (Below w.heap.size w ((((w5.setCell ⟨w.heap.size, 0, none⟩ (.bool true)).setCell ⟨w.heap.size, 1, none⟩ (.slice A1 L1 C1)).setCell ⟨w.heap.size, 2, none⟩ (.slice A2 L2 C2)).setCell ⟨w.heap.size, 3, none⟩ (.slice none 0 0))) := D5.out.bel.grown X.out.2 D5.out.bel.size (fun k hk => by injection hk with hk; omega)
              have P8 : Hid (Pv ((((w5.setCell ⟨w.heap.size, 0, none⟩ (.bool true)).setCell ⟨w.heap.size, 1, none⟩ (.slice A1 L1 C1)).setCell ⟨w.heap.size, 2, none⟩ (.slice A2 L2 C2)).setCell ⟨w.heap.size, 3, none⟩ (.slice none 0 0)) (.agg #[.bool true, .slice A1 L1 C1, .slice A2 L2 C2, .slice none 0 0]) ⟨true, ks, vs, []⟩) := (PG.out.below b5).far X.out.2 D5.out rfl
              generalize ((((w5.setCell ⟨w.heap.size, 0, none⟩ (.bool true)).setCell ⟨w.heap.size, 1, none⟩ (.slice A1 L1 C1)).setCell ⟨w.heap.size, 2, none⟩ (.slice A2 L2 C2)).setCell ⟨w.heap.size, 3, none⟩ (.slice none 0 0)) = W8 at *
              obtain ⟨⟨t0, t1, t2, t3⟩, _⟩ := X.out
              exact bodyPost_ret (v := .tuple #[.agg #[.bool true, .slice A1 L1 C1, .slice A2 L2 C2, .slice none 0 0], .bool true]) (by simp [results, Try.results20, go_sem, t0, t1, t2, t3]) rfl (KecP.mk1 TY.out rfl P8.out B8.out)

end Go.Proofs.Ytfedcghkohfhlaa
