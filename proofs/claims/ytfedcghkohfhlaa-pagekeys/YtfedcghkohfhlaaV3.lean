/- The walk over package page: Decode, a leaf. -/
import Derived.Test.YtfedcghkohfhlaaV2
import Derived.Test.YtfedcghkohfhlaaS4
namespace Go.Proofs.Ytfedcghkohfhlaa
open Go.RowKit
set_option linter.unusedVariables false
set_option linter.unusedSimpArgs false

set_option maxRecDepth 100000 in
set_option maxHeartbeats 8000000 in
theorem Decode_leaf (a : Option Addr) (n cap : Nat) (r : List Int) (w : World) (h : By w a n cap (76 :: r)) (hn : n ≤ 80000) :
    Calls Try.prog 10 #[.slice a n cap] w fun e w' => DecP w w' e (dcd (76 :: r)) := by
  rw [dcd_76]
  have hl := h.len
  simp only [List.length_cons] at hl
  have n0 : 0 < n := by omega
  obtain ⟨b, o, h1, h2⟩ := h.cell
  obtain rfl := h1 n0
  have e1 := h2 0 n0
  simp only [List.getD_cons_zero, Nat.add_zero] at e1
  have n0' : ((n : Int) == 0) = false := beq_eq_false_iff_ne.2 (by omega)
  have n1' : (0 : Int) < (n : Int) := by omega
  have n1'' : (1 : Int) ≤ (n : Int) := by omega
  have hf := h.fits
  have cap1 : (1 : Int) ≤ (cap : Int) := by omega
  have bl : b < w.heap.size := World.block_lt_of_cell? _ _ e1
  have hB : Bys r := h.ok.cons.2
  have HB : Hid _ := hB
  obtain ⟨O, CF, hO⟩ := cut_from Try.underlying30 byteInfo b o n cap 1 1 rfl n0 hf
  have H1 : Hid (By w (some ⟨b, O, none⟩) (n - 1) (cap - 1) r) := h.drop (k := 1) n0 hO
  have HO : Hid _ := hO
  have LR : Hid (r.length ≤ 80000) := by show _ ≤ _; omega
  clear h h1 h2 hl hB hO
  go_enter Try.func10, Try.ntmps10
  go_upto_region 4 with fail
  have BW : Hid (∀ o1 o2 : Obj, Below w.heap.size w ((w.alloc o1).alloc o2)) := fun o1 o2 => nextB (allocB w o1) (allocB _ o2)
  have DM : Hid (∀ rp rq wx, Below (w.heap.size + 2) ((w.alloc (.cells #[.bool false, (.slice none 0 0), (.slice none 0 0), (.slice none 0 0)] 26)).alloc (.cells #[.bool true, (.slice none 0 0), (.slice none 0 0), (.slice none 0 0)] 26)) wx → Rd wx rp rq false r → w.heap.size + 2 ≤ rp → rp < wx.heap.size → rq < wx.heap.size → (rq = 0 ∨ w.heap.size + 2 ≤ rq) → Dm w wx.heap.size w.heap.size (w.heap.size + 1) rp rq true (.slice none 0 0) (.slice none 0 0) (.slice none 0 0) [] [] [] false r wx) := fun rp rq wx hb rd l1 l2 l3 l4 => by
    obtain ⟨WW, hWW⟩ : ∃ WW, WW = (w.alloc (.cells #[.bool false, (.slice none 0 0), (.slice none 0 0), (.slice none 0 0)] 26)).alloc (.cells #[.bool true, (.slice none 0 0), (.slice none 0 0), (.slice none 0 0)] 26) := ⟨_, rfl⟩
    have sz : WW.heap.size = w.heap.size + 2 := by rw [hWW]; simp
    have q1 : B4 WW w.heap.size (.bool false) (.slice none 0 0) (.slice none 0 0) (.slice none 0 0) := by rw [hWW]; exact (B4.new w _ _ _ _ _).below (allocB _ _)
    have q2 : B4 WW (w.heap.size + 1) (.bool true) (.slice none 0 0) (.slice none 0 0) (.slice none 0 0) := by
      have q := B4.new (w.alloc (.cells #[.bool false, (.slice none 0 0), (.slice none 0 0), (.slice none 0 0)] 26)) (.bool true) (.slice none 0 0) (.slice none 0 0) (.slice none 0 0) 26
      rw [World.size_alloc] at q
      rw [hWW]; exact q
    have f1 : ∀ o, WW.frozen? ⟨w.heap.size, o, none⟩ = false := fun o => by rw [hWW]; simp
    have f2 : ∀ o, WW.frozen? ⟨w.heap.size + 1, o, none⟩ = false := fun o => by rw [hWW]; simp
    have b0 : Below w.heap.size w WW := by rw [hWW]; exact BW.out _ _
    rw [← hWW] at hb
    have hb' : Below WW.heap.size WW wx := by rw [sz]; exact hb
    have hs := hb'.size
    exact ⟨q2.below hb', frozen_kept f2 (hb'.block _ q2.lt), q1.below hb', frozen_kept f1 (hb'.block _ q1.lt), Ow.nil _ _ _, Ow.nil _ _ _, Ow.nil _ _ _, fun g e => (by cases e), fun g e => (by cases e), fun g e => (by cases e), rd, ⟨⟨by omega, by omega, l2, l3⟩, ⟨by omega, by omega, by omega⟩, by omega⟩, nextB b0 hb', ⟨by omega, by omega, by omega, by omega⟩, Nat.le_refl _⟩
  go_cut [5] from 28 to 30 (fun s wx => ∃ rp rq, s = .pointer (some ⟨rp, 0, none⟩) ∧ Hid (Dm w wx.heap.size w.heap.size (w.heap.size + 1) rp rq true (.slice none 0 0) (.slice none 0 0) (.slice none 0 0) [] [] [] false r wx))
  case first =>
    have K1 : Hid _ := fun o1 o2 : Obj => Read_more _ _ _ r ((w.alloc o1).alloc o2) (H1.out.below (BW.out o1 o2)) (by omega) (by simp)
    go_wp2_with fail
    refine Calls.mono (K1.out _ _) ?_
    rintro e wx ⟨rp, rq, rfl, rd, l1, l2, l3, l4, hb⟩
    simp only [World.size_alloc] at l1 l4 hb
    have D := DM.out rp rq wx hb rd l1 l2 l3 l4
    have DD : Hid _ := D
    clear D
    go_wp2
    go_meet
    exact ⟨rp, rq, rfl, DD.out⟩
  case rest =>
    obtain ⟨rp, rq, rfl, hD⟩ := hcut
    clear DM BW H1 CF
    have KU : Hid _ := RU_any rp rq false r wc hD.out.rd (by have := LR.out; omega)
    go_wp2_with fail
    refine Calls.mono KU.out ?_
    rintro e w2 ⟨rfl, r2, g2⟩
    rw [Bool.false_or] at r2
    have hD2 : Hid _ := hD.out.read r2 g2
    have RI0 : Hid _ := RI.start true HB.out
    have U64 : rU r < 18446744073709551616 := rU_lt HB.out
    generalize hb0 : wc.heap.size = base at *
    have HB0 : Hid _ := hb0
    clear hb0 hD KU r2 g2
    obtain ⟨u, hu⟩ : ∃ u, u = rU r := ⟨_, rfl⟩
    obtain ⟨bd, hbd⟩ : ∃ bd, bd = rB r := ⟨_, rfl⟩
    obtain ⟨cu, hcu⟩ : ∃ cu, cu = rR r := ⟨_, rfl⟩
    rw [← hu] at RI0 U64 ⊢
    rw [← hbd] at RI0 hD2
    rw [← hcu] at RI0 hD2
    have EQ : Hid _ := And.intro hu (And.intro hbd hcu)
    clear hu hbd hcu
    go_wp2_with fail
    go_loopg [6] u (fun g nv wr => ∃ (m : Nat) (bad : Bool) (cur : List Int) (ks vs : List ByteArray) (kk vv : Value), nv = .int .u64 (m : Nat) ∧ g = m ∧ m < 18446744073709551616 ∧ Hid (Dm w base w.heap.size (w.heap.size + 1) rp rq true kk vv (.slice none 0 0) ks vs [] bad cur wr) ∧ Hid (RI (rdH true r) true r.length m bad cur ks vs))
    case atStart => exact ⟨u, bd, cu, [], [], _, _, rfl, rfl, U64, hD2.out, RI0.out⟩
    case round =>
      obtain ⟨m, bad, cur, ks, vs, kk, vv, rfl, rfl, hm, hD, hR⟩ := hrel
      clear hD2 RI0 U64
      have KB : Hid _ := RBad_any rp rq bad cur wr hD.out.rd
      have CL : Hid (cur.length ≤ 100000) := by
        have := hR.out.len
        have := LR.out
        have q : (if bad = true then 1 else 0) ≤ 1 := by split <;> omega
        show _ ≤ _
        omega
      have KL : Hid (ks.length ≤ 80002 ∧ vs.length ≤ 80002) := by
        have := hR.out.len
        have := LR.out
        have q : (if bad = true then 1 else 0) ≤ 1 := by split <;> omega
        have q2 : vs.length ≤ ks.length := by
          cases hlf : true with
          | true => exact Nat.le_of_eq (hR.out.even (by first | rfl | exact absurd hlf (by decide)))
          | false => rw [hR.out.odd (by first | rfl | exact absurd hlf (by decide))]; exact Nat.zero_le _
        show _ ∧ _
        omega
      by_cases m0 : gk = 0
      · have m0' : ¬ (0 : Int) < (gk : Int) := by omega
        have M0 : Hid _ := m0
        clear m0
        cases bad with
        | true =>
          have TN : Hid (dcdB true r = none) := dcdB_none (hR.out.no rfl).1
          have x0 := hD.out.res.a0
          have x1 := hD.out.res.a1
          have x2 := hD.out.res.a2
          have x3 := hD.out.res.a3
          have xz := hD.out.rz
          have lr0 := hD.out.old
          have q0 := hD.out.box.a0
          have q1 := hD.out.box.a1
          have q2 := hD.out.box.a2
          have q3 := hD.out.box.a3
          go_wp2_with (go_at_call 30; refine Calls.mono KB.out ?_; rintro e w1 ⟨rfl, rfl⟩)
          have X : Hid _ := stored4 hD.out.res (.bool false) (.slice none 0 0) (.slice none 0 0) (.slice none 0 0)
          have B8 : Hid (Below w.heap.size w ((((wr.setCell ⟨w.heap.size, 0, none⟩ (.bool false)).setCell ⟨w.heap.size, 1, none⟩ (.slice none 0 0)).setCell ⟨w.heap.size, 2, none⟩ (.slice none 0 0)).setCell ⟨w.heap.size, 3, none⟩ (.slice none 0 0))) := hD.out.bel.grown X.out.2 hD.out.bel.size (fun k hk => by injection hk with hk; omega)
          generalize ((((wr.setCell ⟨w.heap.size, 0, none⟩ (.bool false)).setCell ⟨w.heap.size, 1, none⟩ (.slice none 0 0)).setCell ⟨w.heap.size, 2, none⟩ (.slice none 0 0)).setCell ⟨w.heap.size, 3, none⟩ (.slice none 0 0)) = W8 at *
          obtain ⟨⟨t0, t1, t2, t3⟩, _⟩ := X.out
          exact bodyPost_ret (v := .tuple #[.agg #[.bool false, (.slice none 0 0), (.slice none 0 0), (.slice none 0 0)], .int .i64 3]) (by simp [results, Try.results10, go_sem, t0, t1, t2, t3]) rfl (DecP.mk0 TN.out rfl B8.out)
        | false =>
          have TS : Hid (dcdB true r = fin ⟨true, ks, vs, []⟩ cur) := dcdB_leaf ((show RI (rdH true r) true r.length 0 false cur ks vs by have := hR.out; rw [M0.out] at this; exact this).done)
          have KLf : Hid _ := RLeft_any rp rq false cur wr hD.out.rd
          have x0 := hD.out.res.a0
          have x1 := hD.out.res.a1
          have x2 := hD.out.res.a2
          have x3 := hD.out.res.a3
          have xz := hD.out.rz
          have lr0 := hD.out.old
          have q0 := hD.out.box.a0
          have q1 := hD.out.box.a1
          have q2 := hD.out.box.a2
          have q3 := hD.out.box.a3
          have KBB : Hid _ := KB.out
          by_cases c0 : 0 < cur.length
          · have c0' : (0 : Int) < (cur.length : Int) := by omega
            have TN : Hid (dcdB true r = none) := by show _ = _; rw [TS.out]; exact fin_no1 c0
            generalize cur.length = cl at *
            go_wp2_with (first | (go_at_call 30; refine Calls.mono KBB.out ?_; rintro e w1 ⟨rfl, rfl⟩) | (go_at_call 32; refine Calls.mono KLf.out ?_; rintro e w1 ⟨rfl, rfl⟩))
            have X : Hid _ := stored4 hD.out.res (.bool false) (.slice none 0 0) (.slice none 0 0) (.slice none 0 0)
            have B8 : Hid (Below w.heap.size w ((((wr.setCell ⟨w.heap.size, 0, none⟩ (.bool false)).setCell ⟨w.heap.size, 1, none⟩ (.slice none 0 0)).setCell ⟨w.heap.size, 2, none⟩ (.slice none 0 0)).setCell ⟨w.heap.size, 3, none⟩ (.slice none 0 0))) := hD.out.bel.grown X.out.2 hD.out.bel.size (fun k hk => by injection hk with hk; omega)
            generalize ((((wr.setCell ⟨w.heap.size, 0, none⟩ (.bool false)).setCell ⟨w.heap.size, 1, none⟩ (.slice none 0 0)).setCell ⟨w.heap.size, 2, none⟩ (.slice none 0 0)).setCell ⟨w.heap.size, 3, none⟩ (.slice none 0 0)) = W8 at *
            obtain ⟨⟨t0, t1, t2, t3⟩, _⟩ := X.out
            exact bodyPost_ret (v := .tuple #[.agg #[.bool false, (.slice none 0 0), (.slice none 0 0), (.slice none 0 0)], .int .i64 3]) (by simp [results, Try.results10, go_sem, t0, t1, t2, t3]) rfl (DecP.mk0 TN.out rfl B8.out)
          · have c0' : ¬ (0 : Int) < (cur.length : Int) := by omega
            have C0 : Hid (cur.length = 0) := by show _ = _; omega
            have FY : Hid (goodB ⟨true, ks, vs, []⟩ = true → dcdB true r = some ⟨true, ks, vs, []⟩) := fun g => by rw [TS.out]; exact fin_yes C0.out g
            have PG : Hid (Pv wr (.agg #[.bool true, kk, vv, (.slice none 0 0)]) ⟨true, ks, vs, []⟩) := hD.out.page (fun k hk => by simp at hk)
            have BD : Hid (Bd ⟨true, ks, vs, []⟩) := by
              have q1 := hR.out.len
              have q2 := LR.out
              have q3 := KL.out
              simp only [Bool.false_eq_true, if_false] at q1
              exact ⟨by simp only; omega, by simp only; omega, (by simp), by simp only; omega, by simp only; omega, (fun k hk => by simp at hk)⟩
            have KG : Hid _ := Good_any _ ⟨true, ks, vs, []⟩ wr PG.out BD.out
            obtain ⟨gd, hgd⟩ : ∃ gd, gd = goodB ⟨true, ks, vs, []⟩ := ⟨_, rfl⟩
            rw [← hgd] at KG
            have HG : Hid _ := hgd
            clear hgd
            generalize cur.length = cl at *
            go_upto_region 16 with fail
            cases gd with
            | false =>
              have TN : Hid (dcdB true r = none) := by show _ = _; rw [TS.out]; exact fin_no2 HG.out.symm
              go_wp2_with (first | (go_at_call 30; refine Calls.mono KBB.out ?_; rintro e w1 ⟨rfl, rfl⟩) | (go_at_call 32; refine Calls.mono KLf.out ?_; rintro e w1 ⟨rfl, rfl⟩) | (go_at_call 12; refine Calls.mono KG.out ?_; rintro e w5 ⟨rfl, b5⟩; have D5 : Hid _ := hD.out.below b5; have y0 := D5.out.res.a0; have y1 := D5.out.res.a1; have y2 := D5.out.res.a2; have y3 := D5.out.res.a3; have yz := D5.out.rz))
              have X : Hid _ := stored4 D5.out.res (.bool false) (.slice none 0 0) (.slice none 0 0) (.slice none 0 0)
              have B8 : Hid (Below w.heap.size w ((((w5.setCell ⟨w.heap.size, 0, none⟩ (.bool false)).setCell ⟨w.heap.size, 1, none⟩ (.slice none 0 0)).setCell ⟨w.heap.size, 2, none⟩ (.slice none 0 0)).setCell ⟨w.heap.size, 3, none⟩ (.slice none 0 0))) := D5.out.bel.grown X.out.2 D5.out.bel.size (fun k hk => by injection hk with hk; omega)
              generalize ((((w5.setCell ⟨w.heap.size, 0, none⟩ (.bool false)).setCell ⟨w.heap.size, 1, none⟩ (.slice none 0 0)).setCell ⟨w.heap.size, 2, none⟩ (.slice none 0 0)).setCell ⟨w.heap.size, 3, none⟩ (.slice none 0 0)) = W8 at *
              obtain ⟨⟨t0, t1, t2, t3⟩, _⟩ := X.out
              exact bodyPost_ret (v := .tuple #[.agg #[.bool false, (.slice none 0 0), (.slice none 0 0), (.slice none 0 0)], .int .i64 3]) (by simp [results, Try.results10, go_sem, t0, t1, t2, t3]) rfl (DecP.mk0 TN.out rfl B8.out)
            | true =>
              have TY : Hid (dcdB true r = some ⟨true, ks, vs, []⟩) := FY.out HG.out.symm
              obtain ⟨L1, A1, C1, rfl⟩ : ∃ L1 A1 C1, kk = .slice A1 L1 C1 := by obtain ⟨a3, c3, e3, _⟩ := hD.out.ok.sl; exact ⟨_, _, _, e3⟩
              obtain ⟨L2, A2, C2, rfl⟩ : ∃ L2 A2 C2, vv = .slice A2 L2 C2 := by obtain ⟨a3, c3, e3, _⟩ := hD.out.ov.sl; exact ⟨_, _, _, e3⟩
              go_wp2_with (first | (go_at_call 30; refine Calls.mono KBB.out ?_; rintro e w1 ⟨rfl, rfl⟩) | (go_at_call 32; refine Calls.mono KLf.out ?_; rintro e w1 ⟨rfl, rfl⟩) | (go_at_call 12; refine Calls.mono KG.out ?_; rintro e w5 ⟨rfl, b5⟩; have D5 : Hid _ := hD.out.below b5; have y0 := D5.out.res.a0; have y1 := D5.out.res.a1; have y2 := D5.out.res.a2; have y3 := D5.out.res.a3; have yz := D5.out.rz; have p0 := D5.out.box.a0; have p1 := D5.out.box.a1; have p2 := D5.out.box.a2; have p3 := D5.out.box.a3))
              have X : Hid _ := stored4 D5.out.res (.bool true) (.slice A1 L1 C1) (.slice A2 L2 C2) (.slice none 0 0)
              have B8 : Hid (Below w.heap.size w ((((w5.setCell ⟨w.heap.size, 0, none⟩ (.bool true)).setCell ⟨w.heap.size, 1, none⟩ (.slice A1 L1 C1)).setCell ⟨w.heap.size, 2, none⟩ (.slice A2 L2 C2)).setCell ⟨w.heap.size, 3, none⟩ (.slice none 0 0))) := D5.out.bel.grown X.out.2 D5.out.bel.size (fun k hk => by injection hk with hk; omega)
              have P8 : Hid (Pv ((((w5.setCell ⟨w.heap.size, 0, none⟩ (.bool true)).setCell ⟨w.heap.size, 1, none⟩ (.slice A1 L1 C1)).setCell ⟨w.heap.size, 2, none⟩ (.slice A2 L2 C2)).setCell ⟨w.heap.size, 3, none⟩ (.slice none 0 0)) (.agg #[.bool true, .slice A1 L1 C1, .slice A2 L2 C2, .slice none 0 0]) ⟨true, ks, vs, []⟩) := (PG.out.below b5).far X.out.2 D5.out rfl
              generalize ((((w5.setCell ⟨w.heap.size, 0, none⟩ (.bool true)).setCell ⟨w.heap.size, 1, none⟩ (.slice A1 L1 C1)).setCell ⟨w.heap.size, 2, none⟩ (.slice A2 L2 C2)).setCell ⟨w.heap.size, 3, none⟩ (.slice none 0 0)) = W8 at *
              obtain ⟨⟨t0, t1, t2, t3⟩, _⟩ := X.out
              exact bodyPost_ret (v := .tuple #[.agg #[.bool true, .slice A1 L1 C1, .slice A2 L2 C2, .slice none 0 0], .int .i64 0]) (by simp [results, Try.results10, go_sem, t0, t1, t2, t3]) rfl (DecP.mk1 TY.out rfl P8.out B8.out)
      · have m0' : (0 : Int) < (gk : Int) := by omega
        cases bad with
        | true =>
          have M0 : Hid _ := m0
          clear m0
          have TN : Hid (dcdB true r = none) := dcdB_none (hR.out.no rfl).1
          have x0 := hD.out.res.a0
          have x1 := hD.out.res.a1
          have x2 := hD.out.res.a2
          have x3 := hD.out.res.a3
          have xz := hD.out.rz
          have lr0 := hD.out.old
          have q0 := hD.out.box.a0
          have q1 := hD.out.box.a1
          have q2 := hD.out.box.a2
          have q3 := hD.out.box.a3
          go_wp2_with (go_at_call 30; refine Calls.mono KB.out ?_; rintro e w1 ⟨rfl, rfl⟩)
          have X : Hid _ := stored4 hD.out.res (.bool false) (.slice none 0 0) (.slice none 0 0) (.slice none 0 0)
          have B8 : Hid (Below w.heap.size w ((((wr.setCell ⟨w.heap.size, 0, none⟩ (.bool false)).setCell ⟨w.heap.size, 1, none⟩ (.slice none 0 0)).setCell ⟨w.heap.size, 2, none⟩ (.slice none 0 0)).setCell ⟨w.heap.size, 3, none⟩ (.slice none 0 0))) := hD.out.bel.grown X.out.2 hD.out.bel.size (fun k hk => by injection hk with hk; omega)
          generalize ((((wr.setCell ⟨w.heap.size, 0, none⟩ (.bool false)).setCell ⟨w.heap.size, 1, none⟩ (.slice none 0 0)).setCell ⟨w.heap.size, 2, none⟩ (.slice none 0 0)).setCell ⟨w.heap.size, 3, none⟩ (.slice none 0 0)) = W8 at *
          obtain ⟨⟨t0, t1, t2, t3⟩, _⟩ := X.out
          exact bodyPost_ret (v := .tuple #[.agg #[.bool false, (.slice none 0 0), (.slice none 0 0), (.slice none 0 0)], .int .i64 3]) (by simp [results, Try.results10, go_sem, t0, t1, t2, t3]) rfl (DecP.mk0 TN.out rfl B8.out)
        | false =>
          obtain ⟨m, hm1⟩ : ∃ m, gk = m + 1 := ⟨gk - 1, by omega⟩
          have HM : Hid _ := hm1
          have hs1 : (gk : Int) - 1 = (m : Int) := by omega
          have M0 : Hid _ := m0
          clear m0 hm1
          go_upto_region 8 with (go_at_call 30; refine Calls.mono KB.out ?_; rintro e w1 ⟨rfl, rfl⟩)
          go_cut [] from 42 to 48 (fun wx => ∃ k3, Hid (Dm w base w.heap.size (w.heap.size + 1) rp rq true k3 vv (.slice none 0 0) (ks ++ [strOfNums (tU cur)]) vs [] (false || tB cur) (tR cur) wx))
          case first =>
            have K : Hid _ := RS_any rp rq false cur wr.drew hD.out.drew.rd CL.out
            have c1 := hD.out.box.a1
            have zp := hD.out.box.lt
            have fp := hD.out.fz
            generalize strOfNums (tU cur) = s at *
            go_wp2
            go_region_law (first | (refine step_append_sa 23 9 (.string ByteArray.empty) 16 Try.underlying23 strInfo rfl (by decide) (by rfl) (.tmp 43) (.tmp 46) (by rfl) base _ (sv ks) (by rfl) (D2.out.ok.below (allocB w2 _)) (some ⟨w2.heap.size, 0, none⟩) 1 1 [.string s] (by rfl) (sl_new w2 _ _ rfl) (by rw [sv_len]; have := KL.out; omega) (by have := D2.out.bas; simp; omega) ?_; intro k3 w3 o3 g3 l3; obtain ⟨L3, a3, c3, rfl⟩ : ∃ L3 a3 c3, k3 = .slice a3 L3 c3 := (by obtain ⟨a3, c3, e3, _⟩ := o3.sl; exact ⟨_, _, _, e3⟩); have NX : Hid _ := (D2.out.below (allocB w2 _)).key o3 g3 l3; have XX := (D2.out.below (allocB w2 (.cells #[.string s] 9))).row (D2.out.ok.below (allocB w2 _)) g3; have y1 := XX.1.a1; have y2 := XX.2.1; clear XX o3 g3 l3) | (go_simp; go_at_call 31; refine Calls.mono K.out ?_; rintro e w2 ⟨rfl, r2, g2⟩; have D2 : Hid _ := hD.out.drew.read r2 g2; have d1 := D2.out.box.a1; have d2 := D2.out.fz; have d3 := D2.out.box.lt; clear r2 g2))
            all_goals go_wp2
            all_goals go_meet
            all_goals exact ⟨_, NX.out⟩
          case rest =>
            obtain ⟨k3, hE⟩ := hcut
            have e0 := hE.out.box.a0
            have RR : Hid _ := (show RI (rdH true r) true r.length (m + 1) false cur ks vs by rw [← HM.out]; exact hR.out).leaf
            have CL2 : Hid ((tR cur).length ≤ 100000) := by
              have := CL.out
              show _ ≤ _
              cases c : tB cur with
              | true => rw [(tB_nil c).2]; simp
              | false => have := tR_lt hR.out.bys c; omega
            clear CL hD KB
            have CL := CL2
            obtain ⟨cu2, hcu2⟩ : ∃ cu2, cu2 = tR cur := ⟨_, rfl⟩
            obtain ⟨b2, hb2⟩ : ∃ b2, b2 = (false || tB cur) := ⟨_, rfl⟩
            rw [← hcu2, ← hb2] at hE RR
            rw [← hcu2] at CL
            have EQ2 : Hid _ := And.intro hcu2 hb2
            clear hcu2 hb2 CL2
            go_upto_region 10 with fail
            have K : Hid _ := RS_any rp rq b2 cu2 wc.drew hE.out.drew.rd CL.out
            have c1 := hE.out.box.a2
            have zp := hE.out.box.lt
            have fp := hE.out.fz
            generalize strOfNums (tU cu2) = s at *
            go_wp2
            go_region_law (first | (refine step_append_sa 23 9 (.string ByteArray.empty) 16 Try.underlying23 strInfo rfl (by decide) (by rfl) (.tmp 52) (.tmp 55) (by rfl) base _ (sv vs) (by rfl) (D2.out.ov.below (allocB w2 _)) (some ⟨w2.heap.size, 0, none⟩) 1 1 [.string s] (by rfl) (sl_new w2 _ _ rfl) (by rw [sv_len]; have := KL.out; omega) (by have := D2.out.bas; simp; omega) ?_; intro k3 w3 o3 g3 l3; obtain ⟨L3, a3, c3, rfl⟩ : ∃ L3 a3 c3, k3 = .slice a3 L3 c3 := (by obtain ⟨a3, c3, e3, _⟩ := o3.sl; exact ⟨_, _, _, e3⟩); have NX : Hid _ := (D2.out.below (allocB w2 _)).val o3 g3 l3; have XX := (D2.out.below (allocB w2 (.cells #[.string s] 9))).row (D2.out.ov.below (allocB w2 _)) g3; have y1 := XX.1.a2; have y2 := XX.2.1; clear XX o3 g3 l3) | (go_simp; go_at_call 31; refine Calls.mono K.out ?_; rintro e w2 ⟨rfl, r2, g2⟩; have D2 : Hid _ := hE.out.drew.read r2 g2; have d1 := D2.out.box.a2; have d2 := D2.out.fz; have d3 := D2.out.box.lt; clear r2 g2))
            all_goals go_wp2_with fail
            all_goals
              go_roundg m
              case measure => have := HM.out; omega
              case rel => exact ⟨m, _, _, _, _, _, _, rfl, rfl, by have := HM.out; omega, NX.out, RR.out⟩

end Go.Proofs.Ytfedcghkohfhlaa
