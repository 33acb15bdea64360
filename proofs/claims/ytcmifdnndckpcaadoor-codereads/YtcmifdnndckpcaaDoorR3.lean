/- The walks over package publicanref1's Reader. -/
import Derived.Test.YtcmifdnndckpcaaDoorW6
import Derived.Deep.DeepCutAuto
namespace Go.Proofs.YtcmifdnndckpcaaDoor
open Go.RowKit
set_option linter.unusedVariables false
set_option linter.unusedSimpArgs false

theorem Rd.spoilt2 {w : World} {p q : Nat} {bad : Bool} {bs : List Int} (h : Rd w p q bad bs) : Rd ((w.setCell ⟨p, 1, none⟩ (.bool true)).setCell ⟨p, 0, none⟩ (.slice none 0 0)) p q true [] := by
  obtain ⟨a, n, cap, c0, by0, hh⟩ := h.ex
  have n1 : (⟨p, 0, none⟩ : Addr) ≠ ⟨p, 1, none⟩ := fun k => by injection k with _ k; cases k
  have n2 : (⟨p, 1, none⟩ : Addr) ≠ ⟨p, 0, none⟩ := n1.symm
  refine ⟨⟨none, 0, 0, ?_, By.empty _, Or.inl rfl⟩, ?_, fun o => by simpa using h.fz o, h.ne⟩
  · have e : (w.setCell ⟨p, 1, none⟩ (.bool true)).cell? ⟨p, 0, none⟩ = some (.slice a n cap) := by first | exact (World.cell?_setCell_other _ _ _ _ n1).trans c0 | exact (World.cell?_setCell_other _ _ _ _ n2).trans c0
    exact World.cell?_setCell_same _ _ _ e
  · first | (rw [World.cell?_setCell_other _ _ _ _ n1]; exact World.cell?_setCell_same _ _ _ h.bad) | (rw [World.cell?_setCell_other _ _ _ _ n2]; exact World.cell?_setCell_same _ _ _ h.bad)

set_option maxRecDepth 100000 in
set_option maxHeartbeats 1000000 in
theorem wfail_any (p q : Nat) (bad : Bool) (bs : List Int) (w : World) (h : Rd w p q bad bs) :
    Calls Tryd.prog 69 #[.pointer (some ⟨p, 0, none⟩)] w fun e w' => e = .returned (.int .u64 0) ∧ Rd w' p q true [] ∧ w.grownBy w' (some p) := by
  obtain ⟨a, n, cap, c0, by0, hh⟩ := h.ex
  have c1 := h.bad
  have f := h.fz
  have H : Hid _ := h.spoilt2
  have G : Hid _ := grownBy_trans (grownBy_setCell w p 1 (.bool true)) (grownBy_setCell _ p 0 (.slice none 0 0))
  clear h by0 hh
  go_enter Tryd.func69, Tryd.ntmps69
  go_wp2
  go_ret
  exact ⟨rfl, H.out, G.out⟩

theorem and127 (y : Nat) (h : y < 256) : bits .and .u8 (y : Int) 127 = (y : Int) % 128 := by
  have := u8_and_nat y 127 h (by decide)
  rw [show ((127 : Nat) : Int) = 127 from rfl, show y &&& 127 = y % 128 from Nat.and_two_pow_sub_one_eq_mod y 7] at this
  rw [this]; omega

set_option maxRecDepth 100000 in
set_option maxHeartbeats 4000000 in
theorem wU_any (p q : Nat) (bad : Bool) (bs : List Int) (w : World) (h : Rd w p q bad bs) (hn : bs.length ≤ 20000000) :
    Calls Tryd.prog 68 #[.pointer (some ⟨p, 0, none⟩)] w fun e w' => e = .returned (.int .u64 (rU bs : Nat)) ∧ Rd w' p q (bad || rB bs) (rR bs) ∧ w.grownBy w' (some p) := by
  obtain ⟨a, n, cap, c0, by0, hh⟩ := h.ex
  have hl := by0.len
  have H : Hid _ := h
  have fz := h.fz
  rcases hh with rfl | ⟨o, rfl⟩
  · obtain ⟨rfl, rfl, e0⟩ := by0.none_nil
    subst e0
    have F : Hid _ := rU_none (dec_nil 0 0)
    clear h by0
    go_enter Tryd.func68, Tryd.ntmps68
    go_wp2_with fail
    refine wp_loop_rounds 1 ?_
    rw [rounds_succ]
    go_wp2_with (go_at_call 69; refine (wfail_any p q bad [] w H.out).mono ?_; rintro e w2 ⟨rfl, r2, g2⟩)
    go_ret
    exact ⟨retV (by rw [F.out.1]; rfl), by rw [F.out.2.1, F.out.2.2, Bool.or_true]; exact r2, g2⟩
  · have HL : Hid _ := hl
    have HB : Hid (Bys bs) := by0.ok
    have hf := by0.fits
    have hx := by0.max
    unfold maxLen at hx
    have BY : Hid _ := by0
    have H2 : Hid (∀ i, i < n → w.cell? ⟨q, o + i, none⟩ = some (.int .u8 (bs.getD i 0))) := by
      obtain ⟨b', o', h1, h2⟩ := by0.cell
      intro i hi
      have := h1 (by omega)
      simp at this
      obtain ⟨rfl, rfl⟩ := this
      exact h2 i hi
    have n5 : n ≤ 20000000 := by omega
    clear h by0 hl hn
    go_enter Tryd.func68, Tryd.ntmps68
    go_wp2_with fail
    go_loopg [3, 4] 10 (fun g uv iv wr => ∃ k x : Nat, k ≤ n ∧ k ≤ 10 ∧ g = 10 - k ∧ iv = .int .i64 k ∧ uv = .int .u64 x ∧ x < 18446744073709551616 ∧ wr = w ∧ Hid (k ≤ 9 → x < 128 ^ k) ∧ Hid (dec 0 0 bs = dec k x (bs.drop k)))
    case atStart => exact ⟨0, 0, Nat.zero_le _, by decide, rfl, rfl, rfl, by decide, rfl, fun _ => by decide, rfl⟩
    case round =>
      obtain ⟨k, x, hk, hk', rfl, rfl, rfl, x64, rfl, hX, hD⟩ := hrel
      by_cases qq : k < n ∧ k < 10
      · have q' : (k : Int) < (n : Int) := by omega
        have q10 : (k : Int) < 10 := by omega
        have e1 := H2.out k qq.1
        have hy := HB.out.getD k
        obtain ⟨y, hy'⟩ : ∃ y : Nat, (y : Int) = bs.getD k 0 := ⟨(bs.getD k 0).toNat, by omega⟩
        rw [← hy'] at e1 hy
        have DC : Hid (bs.drop k = (y : Int) :: bs.drop (k + 1)) := drop_cons (by rw [HL.out]; exact qq.1) hy'
        clear hy'
        have a7 := and127 y (by omega)
        obtain ⟨z, r1, z64, hz⟩ := or_step x y k x64
        have Z : Hid _ := hz
        clear hz
        by_cases k9 : k = 9 ∧ 1 < y
        · have F : Hid _ := rU_none (l := bs) (by
            rw [hD.out, DC.out]
            by_cases c : 128 ≤ y
            · rw [dec_more (by omega) (by omega)]; exact dec_far (by omega)
            · exact dec_bad (by omega) (by omega))
          have k9' : ((k : Int) == 9) = true := beq_iff_eq.2 (by omega)
          have y1' : (1 : Int) < (y : Int) := by omega
          have K9 : Hid _ := k9
          clear k9
          go_wp2_with (go_at_call 69; refine (wfail_any p q bad bs wr H.out).mono ?_; rintro e w2 ⟨rfl, r2, g2⟩)
          go_ret
          exact ⟨retV (by rw [F.out.1]; rfl), by rw [F.out.2.1, F.out.2.2, Bool.or_true]; exact r2, g2⟩
        · have g9 : (((k : Int) == 9) = false) ∨ (((k : Int) == 9) = true ∧ ¬ (1 : Int) < (y : Int)) := by
            by_cases c : k = 9
            · exact Or.inr ⟨beq_iff_eq.2 (by omega), by omega⟩
            · exact Or.inl (beq_eq_false_iff_ne.2 (by omega))
          by_cases c1 : 128 ≤ y
          · have c1' : ¬ (y : Int) < 128 := by omega
            have D2 : Hid (dec 0 0 bs = dec (k + 1) z (bs.drop (k + 1))) := by
              show dec 0 0 bs = _
              rw [hD.out, DC.out, dec_more (by omega) (by omega)]
              have e := Z.out (Or.inl (by omega)) (hX.out (by omega))
              have e2 : (y : Int).toNat - 128 = y % 128 := by omega
              rw [e, e2]
            have X2 : Hid (k + 1 ≤ 9 → z < 128 ^ (k + 1)) := by
              intro k8
              have xk := hX.out (by omega)
              rw [Z.out (Or.inl (by omega)) xk, Nat.pow_succ]
              have : y % 128 * 128 ^ k ≤ 127 * 128 ^ k := Nat.mul_le_mul_right _ (by omega)
              omega
            have k9' : ((k : Int) == 9) = false := beq_eq_false_iff_ne.2 (by omega)
            clear g9
            go_wp2
            go_roundg (10 - (k + 1))
            case measure => omega
            case rel => exact ⟨k + 1, z, by omega, by omega, rfl, by go_num, rfl, z64, rfl, X2, D2⟩
          · have c1' : (y : Int) < 128 := by omega
            by_cases c2 : y = 0 ∧ 0 < k
            · have F : Hid _ := rU_none (l := bs) (by rw [hD.out, DC.out]; exact dec_bad (by omega) (by omega))
              have y0' : ((y : Int) == 0) = true := beq_iff_eq.2 (by omega)
              have k0' : (0 : Int) < (k : Int) := by omega
              obtain rfl : y = 0 := c2.1
              clear c2 r1 a7 y0' Z DC
              rcases g9 with g9 | ⟨g9, y1'⟩
              · go_wp2_with (go_at_call 69; refine (wfail_any p q bad bs wr H.out).mono ?_; rintro e w2 ⟨rfl, r2, g2⟩)
                go_ret
                exact ⟨retV (by rw [F.out.1]; rfl), by rw [F.out.2.1, F.out.2.2, Bool.or_true]; exact r2, g2⟩
              · go_wp2_with (go_at_call 69; refine (wfail_any p q bad bs wr H.out).mono ?_; rintro e w2 ⟨rfl, r2, g2⟩)
                go_ret
                exact ⟨retV (by rw [F.out.1]; rfl), by rw [F.out.2.1, F.out.2.2, Bool.or_true]; exact r2, g2⟩
            · have d : dec 0 0 bs = some (z, k + 1) := by
                rw [hD.out, DC.out, dec_last (by omega) (by omega) (by omega), Z.out (by omega) (hX.out (by omega))]
                have e2 : (y : Int).toNat = y % 128 := by omega
                rw [e2]
              have F : Hid _ := rU_some d
              have RR : Hid _ := H.out.cut BY.out (k := k + 1) (by omega)
              have kn : k + 1 ≤ n := by omega
              clear d
              by_cases c0y : y = 0
              · subst c0y
                obtain rfl : k = 0 := by omega
                obtain rfl : x = 0 := by have := hX.out (by decide); simp at this; exact this
                obtain rfl : z = 0 := by have := Z.out (Or.inl (by decide)) (by decide); simpa using this
                have l0 : bits .and .u8 0 127 = 0 := by decide
                have l1 : bits .or .u64 0 0 = 0 := by decide
                clear r1 a7 Z DC g9
                rw [Nat.add_zero] at e1
                go_wp2
                · go_ret
                  exact ⟨retV (by rw [F.out.1]; rfl), by rw [F.out.2.1, F.out.2.2, Bool.or_false]; exact RR.out.1 (by assumption), grownBy_setCell _ _ _ _⟩
                · go_ret
                  exact ⟨retV (by rw [F.out.1]; rfl), by rw [F.out.2.1, F.out.2.2, Bool.or_false]; exact RR.out.2, grownBy_setCell _ _ _ _⟩
              have g0 : ((y : Int) == 0) = false := beq_eq_false_iff_ne.2 (by omega)
              by_cases c9 : k = 9
              · subst c9
                obtain rfl : y = 1 := by omega
                have w1 : IntKind.u64.wrap (((1 : Nat) : Int) % 128 * 2 ^ (7 * 9)) = 9223372036854775808 := by decide
                rw [w1] at r1
                have a8 : bits .and .u8 1 127 = 1 := by decide
                clear a7 Z DC g9 w1
                go_wp2
                · go_ret
                  exact ⟨retV (by rw [F.out.1]; rfl), by rw [F.out.2.1, F.out.2.2, Bool.or_false]; exact RR.out.1 (by assumption), grownBy_setCell _ _ _ _⟩
                · go_ret
                  exact ⟨retV (by rw [F.out.1]; rfl), by rw [F.out.2.1, F.out.2.2, Bool.or_false]; exact RR.out.2, grownBy_setCell _ _ _ _⟩
              · have g9' : ((k : Int) == 9) = false := beq_eq_false_iff_ne.2 (by omega)
                clear g9
                have ym : (y : Int) % 128 = (y : Int) := by omega
                rw [ym] at r1 a7
                clear ym
                obtain ⟨m, hm⟩ : ∃ m : Nat, m = k + 1 := ⟨_, rfl⟩
                have sm : (k : Int) + 1 = (m : Int) := by omega
                rw [← hm] at kn RR F
                have mn : (m : Int) ≤ (n : Int) := by omega
                have mcap : (m : Int) ≤ (cap : Int) := by omega
                have M : Hid _ := hm
                have CC : Hid _ := And.intro c1 (And.intro c2 c0y)
                clear hm c1 c2 c0y
                go_upto_region 12 with fail
                clear r1 a7 e1 hy g0 g9' k9 q10 c1'
                go_wp2
                · go_ret
                  exact ⟨retV (by rw [F.out.1]; rfl), by rw [F.out.2.1, F.out.2.2, Bool.or_false]; exact RR.out.1 (by assumption), grownBy_setCell _ _ _ _⟩
                · go_ret
                  exact ⟨retV (by rw [F.out.1]; rfl), by rw [F.out.2.1, F.out.2.2, Bool.or_false]; exact RR.out.2, grownBy_setCell _ _ _ _⟩
      · have F : Hid _ := rU_none (l := bs) (by
          rw [hD.out]
          by_cases c : k = 10
          · exact dec_far (by omega)
          · rw [List.drop_of_length_le (by rw [HL.out]; omega)]; exact dec_nil _ _)
        have gq : (¬ (k : Int) < (n : Int)) ∨ ((k : Int) < (n : Int) ∧ ¬ (k : Int) < 10) := by omega
        clear qq
        rcases gq with gq | ⟨gq, gq'⟩
        · go_wp2_with (go_at_call 69; refine (wfail_any p q bad bs wr H.out).mono ?_; rintro e w2 ⟨rfl, r2, g2⟩)
          go_ret
          exact ⟨retV (by rw [F.out.1]; rfl), by rw [F.out.2.1, F.out.2.2, Bool.or_true]; exact r2, g2⟩
        · go_wp2_with (go_at_call 69; refine (wfail_any p q bad bs wr H.out).mono ?_; rintro e w2 ⟨rfl, r2, g2⟩)
          go_ret
          exact ⟨retV (by rw [F.out.1]; rfl), by rw [F.out.2.1, F.out.2.2, Bool.or_true]; exact r2, g2⟩

set_option maxRecDepth 100000 in
set_option maxHeartbeats 1000000 in
theorem wI_any (p q : Nat) (bad : Bool) (bs : List Int) (w : World) (h : Rd w p q bad bs) (hn : bs.length ≤ 20000000) :
    Calls Tryd.prog 44 #[.pointer (some ⟨p, 0, none⟩)] w fun e w' => e = .returned (.int .i64 (zag (rU bs))) ∧ Rd w' p q (bad || rB bs) (rR bs) ∧ w.grownBy w' (some p) := by
  obtain ⟨a, n, cap, c0, by0, hh⟩ := h.ex
  have lt := rU_lt by0.ok
  have K : Hid _ := wU_any p q bad bs w h hn
  clear c0 by0 hh h
  generalize hu : rU bs = u at *
  clear hu
  obtain ⟨m, hm⟩ : ∃ m : Nat, m = u / 2 := ⟨_, rfl⟩
  have s1 : (u : Int) / 2 = (m : Int) := by omega
  have m63 : m < 9223372036854775808 := by omega
  by_cases c : u % 2 = 1
  · have s2 : (u : Int) % 2 = 1 := by omega
    have Z : Hid (zag u = -(m : Int) - 1) := by show zag u = _; unfold zag; rw [if_pos c, hm]
    clear hm c
    go_enter Tryd.func44, Tryd.ntmps44
    go_wp2_with (first | (go_at_call 68; refine Calls.mono K.out ?_; rintro e w1 ⟨rfl, r1, g1⟩))
    go_ret
    exact ⟨retV (by rw [Z.out]; rfl), r1, g1⟩
  · have s2 : (u : Int) % 2 = 0 := by omega
    have Z : Hid (zag u = (m : Int)) := by show zag u = _; unfold zag; rw [if_neg c, hm]
    clear hm c
    go_enter Tryd.func44, Tryd.ntmps44
    go_wp2_with (first | (go_at_call 68; refine Calls.mono K.out ?_; rintro e w1 ⟨rfl, r1, g1⟩))
    go_ret
    exact ⟨retV (by rw [Z.out]; rfl), r1, g1⟩

set_option maxRecDepth 100000 in
set_option maxHeartbeats 1000000 in
theorem wS_any (p q : Nat) (bad : Bool) (bs : List Int) (w : World) (h : Rd w p q bad bs) (hn : bs.length ≤ 20000000) :
    Calls Tryd.prog 47 #[.pointer (some ⟨p, 0, none⟩)] w fun e w' => e = .returned (.string (strOfNums (tU bs))) ∧ Rd w' p q (bad || tB bs) (tR bs) ∧ w.grownBy w' (some p) := by
  obtain ⟨a, n, cap, c0, by0, hh⟩ := h.ex
  have lt := rU_lt by0.ok
  have rl := rR_len bs
  have K : Hid _ := wU_any p q bad bs w h hn
  clear c0 by0 hh h
  by_cases c : (rR bs).length < rU bs
  · obtain ⟨t1, t2, t3⟩ := tU_no c
    rw [t1, t2, t3, Bool.or_true]
    generalize rU bs = u at *
    clear t1 t2 t3
    go_enter Tryd.func47, Tryd.ntmps47
    go_wp2_with fail
    refine Calls.mono K.out ?_
    rintro e w1 ⟨rfl, r1, g1⟩
    obtain ⟨a1, n1, cap1, c1, by1, hh1⟩ := r1.ex
    have el := by1.len
    have c' : (n1 : Int) < (u : Int) := by omega
    have n64 : n1 ≤ 20000000 := by omega
    have R1 : Hid _ := r1
    have G1 : Hid _ := g1
    clear by1 hh1 el r1 g1 c rl K
    go_wp2_with (go_at_call 69; refine (wfail_any p q _ _ w1 R1.out).mono ?_; rintro e w2 ⟨rfl, r2, g2⟩)
    go_ret
    exact ⟨retS rfl, r2, grownBy_trans G1.out g2⟩
  · obtain ⟨t1, t2, t3⟩ := tU_yes c
    rw [t1, t2, t3]
    generalize hu : rU bs = u at *
    clear t1 t2 t3 hu
    go_enter Tryd.func47, Tryd.ntmps47
    go_wp2_with fail
    refine Calls.mono K.out ?_
    rintro e w1 ⟨rfl, r1, g1⟩
    obtain ⟨a1, n1, cap1, c1, by1, hh1⟩ := r1.ex
    have el := by1.len
    have hf1 := by1.fits
    have c' : ¬ (n1 : Int) < (u : Int) := by omega
    have n64 : n1 ≤ 20000000 := by omega
    have un : u ≤ n1 := by omega
    have fz := r1.fz
    have G1 : Hid _ := g1
    rcases hh1 with rfl | ⟨o, rfl⟩
    · obtain ⟨rfl, rfl, e0⟩ := by1.none_nil
      obtain rfl : u = 0 := by omega
      have X : Hid (Rd (w1.setCell ⟨p, 0, none⟩ (.slice none 0 0)) p q (bad || rB bs) ((rR bs).drop 0)) := r1.on (by simpa using by1) (Or.inl rfl)
      have S := by1.str
      have E0 : Hid ((rR bs).take 0 = rR bs) := by show (rR bs).take 0 = rR bs; rw [e0]; rfl
      generalize hs : strOfNums (rR bs) = s at *
      have HS : Hid _ := hs
      clear by1 el r1 g1 c rl K e0 hs
      go_wp2
      go_ret
      exact ⟨retS (by rw [E0.out]; exact HS.out.symm), X.out, grownBy_trans G1.out (grownBy_setCell _ _ _ _)⟩
    · have X : Hid _ := r1.cut by1 un
      have S := (by1.take un).str
      generalize hs : strOfNums ((rR bs).take u) = s at *
      have HS : Hid _ := hs
      clear by1 el r1 g1 c rl K hs
      go_wp2
      · go_ret
        exact ⟨retS HS.out.symm, X.out.1 (by assumption), grownBy_trans G1.out (grownBy_setCell _ _ _ _)⟩
      · go_ret
        exact ⟨retS HS.out.symm, X.out.2, grownBy_trans G1.out (grownBy_setCell _ _ _ _)⟩

end Go.Proofs.YtcmifdnndckpcaaDoor
