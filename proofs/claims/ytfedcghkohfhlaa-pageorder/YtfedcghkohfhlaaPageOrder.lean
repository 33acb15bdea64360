/- Proved: the law PageOrder of package publicanlaw6 returns true for every row of keys and every place in it, whatever memory it starts in, on every schedule; no condition. -/
import Derived.Test.YtfedcghkohfhlaaAw
import Derived.Test.YtfedcghkohfhlaaSh
import Derived.Test.YtfedcghkohfhlaaSc
import Derived.Test.YtfedcghkohfhlaaSo
import Derived.Test.YtfedcghkohfhlaaRh
import Derived.Test.YtfedcghkohfhlaaX4
namespace Go.Proofs.Ytfedcghkohfhlaa.pageOrder
open Go.ChangeShapes Go.WideShapes Go.ChangeAt Go.RowKit Go.Deep Go.Joins Go.Maps
set_option linter.unusedVariables false
set_option linter.unusedSimpArgs false

/-- Two leaves in their boxes, with the first and with the last of the keys. -/
def OJ (w wr : World) (A B : Nat) (ks : List ByteArray) (i : Nat) : Prop := ∃ (La Lb : List ByteArray) (a1 : Option Addr) (m1 c1 : Nat) (d1 : Option Addr) (n1 f1 : Nat) (g1 : Option Addr) (o1 h1 : Nat) (a2 : Option Addr) (m2 c2 : Nat) (d2 : Option Addr) (n2 f2 : Nat) (g2 : Option Addr) (o2 h2 : Nat),
  Oi w wr A B La Lb a1 m1 c1 d1 n1 f1 g1 o1 h1 a2 m2 c2 d2 n2 f2 g2 o2 h2 ∧ Lk ks (fun j => j < i) i La ∧ Lk ks (fun j => ks.length - i ≤ j) i Lb
theorem pvZ (W : World) : Pv W (.agg #[.bool false, .slice none 0 0, .slice none 0 0, .slice none 0 0]) zeroP := Pv.mk' (Sl.empty _) (Sl.empty _) (Sl.empty _) (fun k hk => by simp at hk)
theorem OJ.below {w wr w2 : World} {A B : Nat} {ks : List ByteArray} {i : Nat} (h : OJ w wr A B ks i) (b : Below wr.heap.size wr w2) : OJ w w2 A B ks i := by
  obtain ⟨La, Lb, a1, m1, c1, d1, n1, f1, g1, o1, h1, a2, m2, c2, d2, n2, f2, g2, o2, h2, O, p, q⟩ := h
  exact ⟨La, Lb, a1, m1, c1, d1, n1, f1, g1, o1, h1, a2, m2, c2, d2, n2, f2, g2, o2, h2, O.below b, p, q⟩
set_option maxRecDepth 100000 in
set_option maxHeartbeats 4000000 in
theorem walk (w : World) (ka : Option Addr) (kn kc : Nat) (ks : List ByteArray) (h : Sl w ka kn kc (sv ks)) (hs : Short ks) (k : Int) (hwf : (Lit.int .i64 k).wf = true) : Calls Try.prog 8 #[.slice ka kn kc, .int .i64 k] w fun e w' => e = .returned (.bool true) ∧ Below w.heap.size w w' := by
  have HP : Hid _ := h
  have SH : Hid _ := hs
  have LL : Hid _ := h.slen
  have mx := h.max
  have mf := h.fits
  unfold maxLen at mx
  clear h hs hwf
  go_enter Try.func8, Try.ntmps8
  go_wp2_with fail
  refine Calls.mono (awake_any w) ?_
  rintro e w1 ⟨rfl, b1⟩
  have B1 : Hid _ := b1
  clear b1
  by_cases c1 : 12 < kn
  · have c1' : (12 : Int) < (kn : Int) := by omega
    go_wp2
    exact bodyPost_ret (v := .bool true) (by simp [results, Try.results8, go_sem]) rfl ⟨rfl, B1.out⟩
  have c1' : ¬ (12 : Int) < (kn : Int) := by omega
  by_cases c2 : kn = 0
  · subst c2
    go_wp2
    exact bodyPost_ret (v := .bool true) (by simp [results, Try.results8, go_sem]) rfl ⟨rfl, B1.out⟩
  have c2' : ((kn : Int) == 0) = false := beq_eq_false_iff_ne.2 (by omega)
  by_cases c3 : k < 0
  · go_wp2
    exact bodyPost_ret (v := .bool true) (by simp [results, Try.results8, go_sem]) rfl ⟨rfl, B1.out⟩
  by_cases c4 : (kn : Int) ≤ k
  · go_wp2
    exact bodyPost_ret (v := .bool true) (by simp [results, Try.results8, go_sem]) rfl ⟨rfl, B1.out⟩
  obtain ⟨kk, rfl⟩ : ∃ kk : Nat, k = (kk : Int) := ⟨k.toNat, by omega⟩
  have c3' : ¬ (kk : Int) < 0 := c3
  have KK : Hid (kk < kn) := by show _ < _; omega
  have c5 : decide (kn ≤ kk) = false := decide_eq_false (by omega)
  have c6 : decide ((kk : Int) < 0) = false := decide_eq_false (by omega)
  have c7 : decide ((12 : Int) < (kn : Int)) = false := decide_eq_false (by omega)
  obtain ⟨kb, ko, rfl, _⟩ := HP.out.at (by omega)
  have KC : Hid (∀ i, i < kn → ∀ W, Below w.heap.size w W → W.cell? ⟨kb, ko + i, none⟩ = some (.string (kAt ks i))) := fun i hi W b => (HP.out.below b).str hi
  go_upto_region 6 with fail
  have M1 : Hid _ := And.intro (allocB w1 (.cells #[.bool true, .slice none 0 0, .slice none 0 0, .slice none 0 0] 26)) (Bp.mk1 (p := lf []) (w := w1) (Pv.mk' (Sl.empty _) (Sl.empty _) (Sl.empty _) (fun k hk => by simp at hk)) 26)
  simp only [lf] at M1
  generalize w1.alloc (.cells #[.bool true, .slice none 0 0, .slice none 0 0, .slice none 0 0] 26) = w2 at *
  go_upto_region 7 with fail
  have M2 : Hid _ := And.intro (allocB w2 (.cells #[.bool true, .slice none 0 0, .slice none 0 0, .slice none 0 0] 26)) (Bp.mk1 (p := lf []) (w := w2) (Pv.mk' (Sl.empty _) (Sl.empty _) (Sl.empty _) (fun k hk => by simp at hk)) 26)
  simp only [lf] at M2
  generalize w2.alloc (.cells #[.bool true, .slice none 0 0, .slice none 0 0, .slice none 0 0] 26) = w3 at *
  have O0 : Hid (OJ w w3 w1.heap.size w2.heap.size ks 0) := by
    refine ⟨[], [], _, _, _, _, _, _, _, _, _, _, _, _, _, _, _, _, _, _, ⟨M1.out.2.below M2.out.1, M2.out.2, nextB (nextB B1.out M1.out.1) M2.out.1, B1.out.size, Nat.le_trans B1.out.size M1.out.1.size, Nat.ne_of_lt M1.out.2.b4.lt⟩, Lk.nil ks (fun j hj => by omega), ?_⟩
    exact ⟨fun i j _ hj => by simp at hj, fun x => ⟨fun h => (by cases h), fun ⟨j, hj, hj2, _⟩ => by omega⟩, rfl, by simp [tot]⟩
  have BX : Hid (Below w.heap.size w w3) := nextB (nextB B1.out M1.out.1) M2.out.1
  clear M1 M2
  generalize w1.heap.size = A at *
  generalize w2.heap.size = B at *
  clear c2
  go_wp2_with fail
  go_loopg [7] kn (fun g iv wr => ∃ i : Nat, i ≤ kn ∧ g = kn - i ∧ iv = .int .i64 (i : Nat) ∧ Hid (∀ t, t < i → (1 ≤ (kAt ks t).size ∧ (kAt ks t).size ≤ 40) ∧ ∀ s, s < t → kAt ks s ≠ kAt ks t) ∧ Hid (Below w3.heap.size w3 wr))
  case atStart => exact ⟨0, Nat.zero_le _, rfl, rfl, fun t ht => by omega, Below.refl _ _⟩
  case round =>
    obtain ⟨i, hi, rfl, rfl, hA, hB⟩ := hrel
    by_cases c : i < kn
    · have c' : (i : Int) < (kn : Int) := by omega
      have e1 := KC.out i c wr (nextB BX.out hB.out)
      have sz := SH.out i
      have HA : Hid (∀ n, n < i → kAt ks n ≠ kAt ks i → True) := fun _ _ _ => trivial
      obtain ⟨s, hs⟩ : ∃ s, s = kAt ks i := ⟨_, rfl⟩
      have HS : Hid _ := hs
      rw [← hs] at e1 sz
      clear hs HA
      by_cases d1 : s.size < 1
      · have d1' : (s.size : Int) < 1 := by omega
        go_wp2
        exact bodyPost_ret (v := .bool true) (by simp [results, Try.results8, go_sem]) rfl ⟨rfl, nextB BX.out hB.out⟩
      have d1' : ¬ (s.size : Int) < 1 := by omega
      by_cases d2 : 40 < s.size
      · have d2' : (40 : Int) < (s.size : Int) := by omega
        go_wp2
        exact bodyPost_ret (v := .bool true) (by simp [results, Try.results8, go_sem]) rfl ⟨rfl, nextB BX.out hB.out⟩
      have d2' : ¬ (40 : Int) < (s.size : Int) := by omega
      go_wp2_with fail
      clear e1
      go_loopg [8] i (fun g nv wr => ∃ n : Nat, n ≤ i ∧ g = i - n ∧ nv = .int .i64 (n : Nat) ∧ Hid (∀ t, t < n → kAt ks t ≠ kAt ks i) ∧ Hid (Below w3.heap.size w3 wr))
      case atStart => exact ⟨0, Nat.zero_le _, rfl, rfl, fun t ht => by omega, hB.out⟩
      case round =>
        clear hB
        obtain ⟨n, hn, rfl, rfl, hC, hB⟩ := hrel
        by_cases cn : n < i
        · have cn' : (n : Int) < (i : Int) := by omega
          have cm : (n : Int) < (kn : Int) := by omega
          have e1 := KC.out i c wr (nextB BX.out hB.out)
          have e2 := KC.out n (by omega) wr (nextB BX.out hB.out)
          rw [← HS.out] at e1
          by_cases e : kAt ks n = s
          · rw [e] at e2
            have q3 : (s.toList == s.toList) = true := by simp
            have E : Hid _ := e
            clear e
            go_wp2_with fail
            go_quiet (fail)
            go_wp2
            exact bodyPost_ret (v := .bool true) (by simp [results, Try.results8, go_sem]) rfl ⟨rfl, nextB BX.out (nextB hB.out (drewB _ _))⟩
          · have NE : Hid _ := e
            have q3 : ((kAt ks n).toList == s.toList) = false := by rw [toL_eq]; exact decide_eq_false e
            clear e
            generalize hu : kAt ks n = u at *
            have HU : Hid _ := hu
            clear hu
            go_wp2_with fail
            go_quiet (fail)
            go_wp2
            go_roundg (i - (n + 1))
            case measure => omega
            case rel =>
              refine ⟨n + 1, by omega, rfl, by go_num, fun t ht => ?_, nextB hB.out (drewB _ _)⟩
              rcases Nat.lt_or_ge t n with q | q
              · exact hC.out t q
              · obtain rfl : t = n := by omega
                rw [HU.out, ← HS.out]
                exact NE.out
        · obtain rfl : i = n := by omega
          go_wp2
          go_roundg (kn - (i + 1))
          case measure => omega
          case rel =>
            refine ⟨i + 1, by omega, rfl, by go_num, fun t ht => ?_, hB.out⟩
            rcases Nat.lt_or_ge t i with q | q
            · exact hA.out t q
            · obtain rfl : t = i := by omega
              rw [← HS.out]
              exact ⟨⟨by omega, by omega⟩, fun x hx => by rw [HS.out]; exact hC.out x hx⟩
    · obtain rfl : kn = i := by omega
      have AK : Hid _ := hA.out
      have OJ1 : Hid _ := O0.out.below hB.out
      clear hA hB O0
      go_wp2_with fail
      go_loopg [9] kn (fun g iv wr => ∃ i : Nat, i ≤ kn ∧ g = kn - i ∧ iv = .int .i64 (i : Nat) ∧ Hid (OJ w wr A B ks i))
      case atStart => exact ⟨0, Nat.zero_le _, rfl, rfl, OJ1.out⟩
      case round =>
        clear OJ1
        obtain ⟨i, hi, rfl, rfl, hO⟩ := hrel
        obtain ⟨La, Lb, a1, m1, c1, d1, n1, f1, g1, o1, h1, a2, m2, c2, d2, n2, f2, g2, o2, h2, O', la', lb'⟩ := hO.out
        have O : Hid _ := O'
        have HLa : Hid _ := la'
        have HLb : Hid _ := lb'
        clear O' la' lb' hO
        by_cases c : i < kn
        · have c' : (i : Int) < (kn : Int) := by omega
          obtain ⟨j, hj⟩ : ∃ j, j = kn - 1 - i := ⟨_, rfl⟩
          have dj : (kn : Int) - 1 - (i : Int) = (j : Int) := by omega
          have cj : (j : Int) < (kn : Int) := by omega
          have cj' : j < kn := by omega
          have HJ : Hid _ := hj
          clear hj
          have QA : Hid _ := HLa.out.put (i := i) (N := fun t => t < i + 1) (by have := LL.out; omega) ((AK.out i c).1.2) (fun t ht _ => (AK.out i c).2 t ht) (fun t => by omega)
          have QB : Hid _ := HLb.out.put (i := j) (N := fun t => ks.length - (i + 1) ≤ t) (by have := LL.out; omega) ((AK.out j cj').1.2) (fun t ht ht2 => by have := HJ.out; have := LL.out; exact ((AK.out t (by omega)).2 j (by omega)).symm) (fun t => by have := HJ.out; have := LL.out; omega)
          have KA : Hid (∀ W, Pv W (.agg #[.bool true, .slice a1 m1 c1, .slice d1 n1 f1, .slice g1 o1 h1]) (lf La) → Calls Try.prog 23 #[.agg #[.bool true, .slice a1 m1 c1, .slice d1 n1 f1, .slice g1 o1 h1], .string (kAt ks i), .string (kAt ks i)] W fun e w' => NewP W w' e (lf (insK La (kAt ks i)))) := fun W P => by
            have := Put_leaf _ (lf La) (kAt ks i) (kAt ks i) W P (HLa.out.fit (by omega)) HLa.out.rise rfl
            rwa [put_lf QA.out.1] at this
          have KB : Hid (∀ W, Pv W (.agg #[.bool true, .slice a2 m2 c2, .slice d2 n2 f2, .slice g2 o2 h2]) (lf Lb) → Calls Try.prog 23 #[.agg #[.bool true, .slice a2 m2 c2, .slice d2 n2 f2, .slice g2 o2 h2], .string (kAt ks j), .string (kAt ks j)] W fun e w' => NewP W w' e (lf (insK Lb (kAt ks j)))) := fun W P => by
            have := Put_leaf _ (lf Lb) (kAt ks j) (kAt ks j) W P (HLb.out.fit (by omega)) HLb.out.rise rfl
            rwa [put_lf QB.out.1] at this
          go_upto_region 20 with fail
          refine wp_region_held_drew (S := (fun W => W.cell? ⟨kb, ko + i, none⟩ = some (.string (kAt ks i)))) (by kernel_rfl) (KC.out i (by omega) _ (nextB O.out.bel (Below.refl _ _).drew)) (fun hHeld => ?_)
          refine take2 rfl (i := 1) (v := .slice (some ⟨kb, ko, none⟩) kn kc) (d := 77) rfl rfl (by kernel_rfl) (by kernel_rfl) (by kernel_rfl) (fun _ _ _ h => h) (Or.inl ⟨by rfl, ?_⟩) hHeld ?_
          · (intro W hW; (try dsimp only at hW); go_simp)
          try simp only [Act.put, List.setIfInBounds_toArray, List.set_cons_zero, List.set_cons_succ]
          refine take2 rfl (i := 2) (v := .int .i64 (i : Nat)) (d := 78) rfl rfl (by kernel_rfl) (by kernel_rfl) (by kernel_rfl) (fun _ _ _ h => h) (Or.inl ⟨by rfl, ?_⟩) hHeld ?_
          · (intro W hW; (try dsimp only at hW); go_simp)
          try simp only [Act.put, List.setIfInBounds_toArray, List.set_cons_zero, List.set_cons_succ]
          refine take2 rfl (i := 3) (v := .pointer (some ⟨kb, ko + i, none⟩)) (d := 79) rfl rfl (by kernel_rfl) (by kernel_rfl) (by kernel_rfl) (fun _ _ _ h => h) (Or.inl ⟨by rfl, ?_⟩) hHeld ?_
          · (intro W hW; (try dsimp only at hW); go_simp)
          try simp only [Act.put, List.setIfInBounds_toArray, List.set_cons_zero, List.set_cons_succ]
          refine take2 rfl (i := 4) (v := .string (kAt ks i)) (d := 80) rfl rfl (by kernel_rfl) (by kernel_rfl) (by kernel_rfl) (fun _ _ _ h => h) (Or.inl ⟨by rfl, ?_⟩) hHeld ?_
          · (intro W hW; (try dsimp only at hW); go_simp)
          try simp only [Act.put, List.setIfInBounds_toArray, List.set_cons_zero, List.set_cons_succ]
          refine take2 rfl (i := 5) (v := .slice (some ⟨kb, ko, none⟩) kn kc) (d := 81) rfl rfl (by kernel_rfl) (by kernel_rfl) (by kernel_rfl) (fun _ _ _ h => h) (Or.inl ⟨by rfl, ?_⟩) hHeld ?_
          · (intro W hW; (try dsimp only at hW); go_simp)
          try simp only [Act.put, List.setIfInBounds_toArray, List.set_cons_zero, List.set_cons_succ]
          refine take2 rfl (i := 6) (v := .int .i64 (i : Nat)) (d := 82) rfl rfl (by kernel_rfl) (by kernel_rfl) (by kernel_rfl) (fun _ _ _ h => h) (Or.inl ⟨by rfl, ?_⟩) hHeld ?_
          · (intro W hW; (try dsimp only at hW); go_simp)
          try simp only [Act.put, List.setIfInBounds_toArray, List.set_cons_zero, List.set_cons_succ]
          refine take2 rfl (i := 7) (v := .pointer (some ⟨kb, ko + i, none⟩)) (d := 83) rfl rfl (by kernel_rfl) (by kernel_rfl) (by kernel_rfl) (fun _ _ _ h => h) (Or.inl ⟨by rfl, ?_⟩) hHeld ?_
          · (intro W hW; (try dsimp only at hW); go_simp)
          try simp only [Act.put, List.setIfInBounds_toArray, List.set_cons_zero, List.set_cons_succ]
          refine take2 rfl (i := 8) (v := .string (kAt ks i)) (d := 84) rfl rfl (by kernel_rfl) (by kernel_rfl) (by kernel_rfl) (fun _ _ _ h => h) (Or.inl ⟨by rfl, ?_⟩) hHeld ?_
          · (intro W hW; (try dsimp only at hW); go_simp)
          try simp only [Act.put, List.setIfInBounds_toArray, List.set_cons_zero, List.set_cons_succ]
          obtain ⟨x0, x1, x2, x3⟩ := (O.out.below (Below.refl _ _).drew).one.b4
          simp only [lf] at x0
          refine wpAnyH_ready (rs := [0]) (by kernel_rfl) (by simp) ?_
          refine cons2 rfl rfl (fun K hK => ?_)
          go_simp
          refine hK.out _ _ (KC.out i (by omega) _ (nextB O.out.bel (Below.refl _ _).drew)) (fun hX => ?_)
          clear hK K hHeld
          have hHeld := hX
          clear hX
          try simp only [Act.put, List.setIfInBounds_toArray, List.set_cons_zero, List.set_cons_succ]
          clear x0 x1 x2 x3
          refine wpAnyH_ready (rs := [9]) (by kernel_rfl) (by simp) ?_
          refine cons2 rfl rfl (fun K hK => ?_)
          go_simp
          (go_at_call 23; refine Calls.mono (KA.out _ (O.out.below (Below.refl _ _).drew).one.pv) ?_; rintro e w5 ⟨⟨v5, rfl, P5⟩, b5⟩; obtain ⟨a3, m3, c3, d3, n3, f3, g3, o3, h3, rfl, _, _, _⟩ := P5.ex; have lft : ∀ L, (lf L).leaf = true := fun _ => rfl; rw [lft] at P5; have O5 : Hid _ := O.out.below (nextB (Below.refl _ _).drew b5))
          go_wp2_with fail
          refine hK.out _ _ (KC.out i (by omega) _ O5.out.bel) (fun hX => ?_)
          clear hK K hHeld
          have hHeld := hX
          clear hX
          try simp only [Act.put, List.setIfInBounds_toArray, List.set_cons_zero, List.set_cons_succ]
          have O6 : Hid _ := O5.out.putA P5
          clear P5 lft
          obtain ⟨x0, x1, x2, x3⟩ := O5.out.one.b4
          simp only [lf] at x0
          have zf := O5.out.one.fz
          refine wpAnyH_ready (rs := [10]) (by kernel_rfl) (by simp) ?_
          refine cons2 rfl rfl (fun K hK => ?_)
          go_simp
          refine hK.out _ _ (KC.out i (by omega) _ O6.out.bel) (fun hX => ?_)
          clear hK K hHeld
          have hHeld := hX
          clear hX
          try simp only [Act.put, List.setIfInBounds_toArray, List.set_cons_zero, List.set_cons_succ]
          clear x0 x1 x2 x3 zf
          refine wpAnyH_done (by kernel_rfl) ?_ _
          unfold st4 at O6
          generalize ((((w5.setCell ⟨A, 0, none⟩ (.bool true)).setCell ⟨A, 1, none⟩ (.slice a3 m3 c3)).setCell ⟨A, 2, none⟩ (.slice d3 n3 f3)).setCell ⟨A, 3, none⟩ (.slice g3 o3 h3)) = w6 at *
          clear O5 O KA b5 hHeld
          have O7 : Hid _ := O6.out
          clear O6
          go_upto_region 22 with fail
          refine wp_region_held_drew (S := (fun W => W.cell? ⟨kb, ko + j, none⟩ = some (.string (kAt ks j)))) (by kernel_rfl) (KC.out j (by omega) _ (nextB O7.out.bel (Below.refl _ _).drew)) (fun hHeld => ?_)
          refine take2 rfl (i := 1) (v := .slice (some ⟨kb, ko, none⟩) kn kc) (d := 92) rfl rfl (by kernel_rfl) (by kernel_rfl) (by kernel_rfl) (fun _ _ _ h => h) (Or.inl ⟨by rfl, ?_⟩) hHeld ?_
          · (intro W hW; (try dsimp only at hW); go_simp)
          try simp only [Act.put, List.setIfInBounds_toArray, List.set_cons_zero, List.set_cons_succ]
          refine take2 rfl (i := 2) (v := .int .i64 (j : Nat)) (d := 93) rfl rfl (by kernel_rfl) (by kernel_rfl) (by kernel_rfl) (fun _ _ _ h => h) (Or.inl ⟨by rfl, ?_⟩) hHeld ?_
          · (intro W hW; (try dsimp only at hW); go_simp)
          try simp only [Act.put, List.setIfInBounds_toArray, List.set_cons_zero, List.set_cons_succ]
          refine take2 rfl (i := 3) (v := .pointer (some ⟨kb, ko + j, none⟩)) (d := 94) rfl rfl (by kernel_rfl) (by kernel_rfl) (by kernel_rfl) (fun _ _ _ h => h) (Or.inl ⟨by rfl, ?_⟩) hHeld ?_
          · (intro W hW; (try dsimp only at hW); go_simp)
          try simp only [Act.put, List.setIfInBounds_toArray, List.set_cons_zero, List.set_cons_succ]
          refine take2 rfl (i := 4) (v := .string (kAt ks j)) (d := 95) rfl rfl (by kernel_rfl) (by kernel_rfl) (by kernel_rfl) (fun _ _ _ h => h) (Or.inl ⟨by rfl, ?_⟩) hHeld ?_
          · (intro W hW; (try dsimp only at hW); go_simp)
          try simp only [Act.put, List.setIfInBounds_toArray, List.set_cons_zero, List.set_cons_succ]
          refine take2 rfl (i := 5) (v := .slice (some ⟨kb, ko, none⟩) kn kc) (d := 96) rfl rfl (by kernel_rfl) (by kernel_rfl) (by kernel_rfl) (fun _ _ _ h => h) (Or.inl ⟨by rfl, ?_⟩) hHeld ?_
          · (intro W hW; (try dsimp only at hW); go_simp)
          try simp only [Act.put, List.setIfInBounds_toArray, List.set_cons_zero, List.set_cons_succ]
          refine take2 rfl (i := 6) (v := .int .i64 (j : Nat)) (d := 97) rfl rfl (by kernel_rfl) (by kernel_rfl) (by kernel_rfl) (fun _ _ _ h => h) (Or.inl ⟨by rfl, ?_⟩) hHeld ?_
          · (intro W hW; (try dsimp only at hW); go_simp)
          try simp only [Act.put, List.setIfInBounds_toArray, List.set_cons_zero, List.set_cons_succ]
          refine take2 rfl (i := 7) (v := .pointer (some ⟨kb, ko + j, none⟩)) (d := 98) rfl rfl (by kernel_rfl) (by kernel_rfl) (by kernel_rfl) (fun _ _ _ h => h) (Or.inl ⟨by rfl, ?_⟩) hHeld ?_
          · (intro W hW; (try dsimp only at hW); go_simp)
          try simp only [Act.put, List.setIfInBounds_toArray, List.set_cons_zero, List.set_cons_succ]
          refine take2 rfl (i := 8) (v := .string (kAt ks j)) (d := 99) rfl rfl (by kernel_rfl) (by kernel_rfl) (by kernel_rfl) (fun _ _ _ h => h) (Or.inl ⟨by rfl, ?_⟩) hHeld ?_
          · (intro W hW; (try dsimp only at hW); go_simp)
          try simp only [Act.put, List.setIfInBounds_toArray, List.set_cons_zero, List.set_cons_succ]
          obtain ⟨x0, x1, x2, x3⟩ := (O7.out.below (Below.refl _ _).drew).two.b4
          simp only [lf] at x0
          refine wpAnyH_ready (rs := [0]) (by kernel_rfl) (by simp) ?_
          refine cons2 rfl rfl (fun K hK => ?_)
          go_simp
          refine hK.out _ _ (KC.out j (by omega) _ (nextB O7.out.bel (Below.refl _ _).drew)) (fun hX => ?_)
          clear hK K hHeld
          have hHeld := hX
          clear hX
          try simp only [Act.put, List.setIfInBounds_toArray, List.set_cons_zero, List.set_cons_succ]
          clear x0 x1 x2 x3
          refine wpAnyH_ready (rs := [9]) (by kernel_rfl) (by simp) ?_
          refine cons2 rfl rfl (fun K hK => ?_)
          go_simp
          (go_at_call 23; refine Calls.mono (KB.out _ (O7.out.below (Below.refl _ _).drew).two.pv) ?_; rintro e w5 ⟨⟨v5, rfl, P5⟩, b5⟩; obtain ⟨a4, m4, c4, d4, n4, f4, g4, o4, h4, rfl, _, _, _⟩ := P5.ex; have lft : ∀ L, (lf L).leaf = true := fun _ => rfl; rw [lft] at P5; have O5 : Hid _ := O7.out.below (nextB (Below.refl _ _).drew b5))
          go_wp2_with fail
          refine hK.out _ _ (KC.out j (by omega) _ O5.out.bel) (fun hX => ?_)
          clear hK K hHeld
          have hHeld := hX
          clear hX
          try simp only [Act.put, List.setIfInBounds_toArray, List.set_cons_zero, List.set_cons_succ]
          have O6 : Hid _ := O5.out.putB P5
          clear P5 lft
          obtain ⟨x0, x1, x2, x3⟩ := O5.out.two.b4
          simp only [lf] at x0
          have zf := O5.out.two.fz
          refine wpAnyH_ready (rs := [10]) (by kernel_rfl) (by simp) ?_
          refine cons2 rfl rfl (fun K hK => ?_)
          go_simp
          refine hK.out _ _ (KC.out j (by omega) _ O6.out.bel) (fun hX => ?_)
          clear hK K hHeld
          have hHeld := hX
          clear hX
          try simp only [Act.put, List.setIfInBounds_toArray, List.set_cons_zero, List.set_cons_succ]
          clear x0 x1 x2 x3 zf
          refine wpAnyH_done (by kernel_rfl) ?_ _
          unfold st4 at O6
          generalize ((((w5.setCell ⟨B, 0, none⟩ (.bool true)).setCell ⟨B, 1, none⟩ (.slice a4 m4 c4)).setCell ⟨B, 2, none⟩ (.slice d4 n4 f4)).setCell ⟨B, 3, none⟩ (.slice g4 o4 h4)) = w7 at *
          clear O5 O7 KB b5 hHeld
          go_wp2
          go_roundg (kn - (i + 1))
          case measure => omega
          case rel => exact ⟨i + 1, by omega, rfl, by go_num, _, _, _, _, _, _, _, _, _, _, _, _, _, _, _, _, _, _, _, _, O6.out, QA.out.2, QB.out.2⟩
        · obtain rfl : kn = i := by omega
          obtain rfl : La = Lb := rise_uniq HLa.out.rise HLb.out.rise (fun x => by
            rw [HLa.out.mem, HLb.out.mem]
            have := LL.out
            exact ⟨fun ⟨j, q1, q2, q3⟩ => ⟨j, by omega, q2, q3⟩, fun ⟨j, q1, q2, q3⟩ => ⟨j, by omega, q2, q3⟩⟩)
          obtain rfl : kn = m1 := by
            have q1 : La.length = m1 := O.out.one.pv.parts.2.1.slen
            have q2 := HLa.out.len
            omega
          have FT : Hid _ := HLa.out.fit (by omega)
          obtain ⟨K, hK0⟩ : ∃ K, K = kAt ks kk := ⟨_, rfl⟩
          have HKK : Hid _ := hK0
          have FK : Hid (fnd La K = true) := (fnd_mem HLa.out.rise).2 ((HLa.out.mem _).2 ⟨kk, KK.out, by have := LL.out; have := KK.out; omega, hK0.symm⟩)
          clear hK0
          have lft : ∀ L, (lf L).leaf = true := fun _ => rfl
          have SS : Hid (∀ W, Below wr.heap.size wr W → W.cell? ⟨A, 0, none⟩ = some (.bool true) ∧ W.cell? ⟨A, 1, none⟩ = some (.slice a1 kn c1) ∧ W.cell? ⟨A, 2, none⟩ = some (.slice d1 n1 f1) ∧ W.cell? ⟨A, 3, none⟩ = some (.slice g1 o1 h1) ∧ W.cell? ⟨B, 0, none⟩ = some (.bool true) ∧ W.cell? ⟨B, 1, none⟩ = some (.slice a2 m2 c2) ∧ W.cell? ⟨B, 2, none⟩ = some (.slice d2 n2 f2) ∧ W.cell? ⟨B, 3, none⟩ = some (.slice g2 o2 h2)) := fun W b => by
            have q := (O.out.one.below b).b4
            have r := (O.out.two.below b).b4
            exact ⟨q.a0, q.a1, q.a2, q.a3, r.a0, r.a1, r.a2, r.a3⟩
          have KE1 : Hid (∀ W, Below wr.heap.size wr W → Calls Try.prog 16 #[.agg #[.bool true, .slice a1 kn c1, .slice d1 n1 f1, .slice g1 o1 h1]] W fun e w' => New W w' e (encP (lf La))) := fun W b => Encode_any _ (lf La) W (O.out.one.below b).pv FT.out
          have KE2 : Hid (∀ W, Below wr.heap.size wr W → Calls Try.prog 16 #[.agg #[.bool true, .slice a2 m2 c2, .slice d2 n2 f2, .slice g2 o2 h2]] W fun e w' => New W w' e (encP (lf La))) := fun W b => Encode_any _ (lf La) W (O.out.two.below b).pv FT.out
          have cki : (kk : Int) < (kn : Int) := by have := KK.out; omega
          go_upto_region 23 with fail
          refine wp_region_held_drew (S := (fun W => Below wr.heap.size wr W)) (by kernel_rfl) (Below.refl _ _).drew (fun hHeld => ?_)
          refine take2 rfl (i := 0) (v := (.agg #[.bool true, .slice a1 kn c1, .slice d1 n1 f1, .slice g1 o1 h1])) (d := 101) rfl rfl (by kernel_rfl) (by kernel_rfl) (by kernel_rfl) (fun _ _ _ h => h) (Or.inl ⟨by rfl, ?_⟩) hHeld ?_
          · (intro W hW; obtain ⟨_, _, _, _, _, _, _, _⟩ := SS.out W hW; go_simp)
          try simp only [Act.put, List.setIfInBounds_toArray, List.set_cons_zero, List.set_cons_succ]
          refine take2 rfl (i := 3) (v := (.agg #[.bool true, .slice a2 m2 c2, .slice d2 n2 f2, .slice g2 o2 h2])) (d := 104) rfl rfl (by kernel_rfl) (by kernel_rfl) (by kernel_rfl) (fun _ _ _ h => h) (Or.inl ⟨by rfl, ?_⟩) hHeld ?_
          · (intro W hW; obtain ⟨_, _, _, _, _, _, _, _⟩ := SS.out W hW; go_simp)
          try simp only [Act.put, List.setIfInBounds_toArray, List.set_cons_zero, List.set_cons_succ]
          refine wpAnyH_ready (rs := [1]) (by kernel_rfl) (by simp) ?_
          refine cons2 rfl rfl (fun K hK => ?_)
          go_simp
          (go_at_call 16; refine Calls.mono (KE1.out _ ((Below.refl _ _).drew)) ?_; rintro e w8 ⟨⟨v8, rfl, p8⟩, b8⟩; obtain ⟨s8, t8, rfl, y8, _, _⟩ := p8.by)
          go_wp2_with fail
          refine hK.out _ _ (nextB (Below.refl _ _).drew b8) (fun hX => ?_)
          clear hK K hHeld
          have hHeld := hX
          clear hX
          try simp only [Act.put, List.setIfInBounds_toArray, List.set_cons_zero, List.set_cons_succ]
          have B8 : Hid (Below wr.heap.size wr w8) := nextB (Below.refl _ _).drew b8
          refine wpAnyH_strong (S' := fun W => Below w8.heap.size w8 W) (fun W b => nextB B8.out b) _ _ _ _ ?_
          clear hHeld
          have hHeld : Below w8.heap.size w8 w8 := Below.refl _ _
          have ST8 : Hid (∀ W, Below w8.heap.size w8 W → (convert 30 9 (.slice s8 (encP (lf La)).length t8)).run Try.prog W = .ok (.string (strOfNums (encP (lf La)))) W) := fun W b => (y8.below b).str
          refine take2 rfl (i := 2) (v := .string (strOfNums (encP (lf La)))) (d := 103) rfl rfl (by kernel_rfl) (by kernel_rfl) (by kernel_rfl) (fun _ _ _ h => h) (Or.inl ⟨by rfl, ?_⟩) hHeld ?_
          · (intro W hW; have st := ST8.out W hW; go_simp)
          try simp only [Act.put, List.setIfInBounds_toArray, List.set_cons_zero, List.set_cons_succ]
          refine wpAnyH_ready (rs := [4]) (by kernel_rfl) (by simp) ?_
          refine cons2 rfl rfl (fun K hK => ?_)
          go_simp
          (go_at_call 16; refine Calls.mono (KE2.out _ (B8.out)) ?_; rintro e w9 ⟨⟨v9, rfl, p9⟩, b9⟩; obtain ⟨s9, t9, rfl, y9, _, _⟩ := p9.by)
          go_wp2_with fail
          refine hK.out _ _ b9 (fun hX => ?_)
          clear hK K hHeld
          have hHeld := hX
          clear hX
          try simp only [Act.put, List.setIfInBounds_toArray, List.set_cons_zero, List.set_cons_succ]
          have B9 : Hid (Below wr.heap.size wr w9) := nextB B8.out b9
          refine wpAnyH_strong (S' := fun W => Below w9.heap.size w9 W) (fun W b => nextB b9 b) _ _ _ _ ?_
          clear hHeld
          have hHeld : Below w9.heap.size w9 w9 := Below.refl _ _
          have ST9 : Hid (∀ W, Below w9.heap.size w9 W → (convert 30 9 (.slice s9 (encP (lf La)).length t9)).run Try.prog W = .ok (.string (strOfNums (encP (lf La)))) W) := fun W b => (y9.below b).str
          refine take2 rfl (i := 5) (v := .string (strOfNums (encP (lf La)))) (d := 106) rfl rfl (by kernel_rfl) (by kernel_rfl) (by kernel_rfl) (fun _ _ _ h => h) (Or.inl ⟨by rfl, ?_⟩) hHeld ?_
          · (intro W hW; have st := ST9.out W hW; go_simp)
          try simp only [Act.put, List.setIfInBounds_toArray, List.set_cons_zero, List.set_cons_succ]
          refine take2 rfl (i := 6) (v := .bool false) (d := 107) rfl rfl (by kernel_rfl) (by kernel_rfl) (by kernel_rfl) (fun _ _ _ h => h) (Or.inl ⟨by rfl, ?_⟩) hHeld ?_
          · (intro W hW; (try dsimp only at hW); go_simp)
          try simp only [Act.put, List.setIfInBounds_toArray, List.set_cons_zero, List.set_cons_succ]
          refine take2 rfl (i := 7) (v := .bool false) (d := 108) rfl rfl (by kernel_rfl) (by kernel_rfl) (by kernel_rfl) (fun _ _ _ h => h) (Or.inl ⟨by rfl, ?_⟩) hHeld ?_
          · (intro W hW; (try dsimp only at hW); go_simp)
          try simp only [Act.put, List.setIfInBounds_toArray, List.set_cons_zero, List.set_cons_succ]
          refine take2 rfl (i := 8) (v := .pointer (some ⟨A, 1, none⟩)) (d := 109) rfl rfl (by kernel_rfl) (by kernel_rfl) (by kernel_rfl) (fun _ _ _ h => h) (Or.inl ⟨by rfl, ?_⟩) hHeld ?_
          · (intro W hW; (try dsimp only at hW); go_simp)
          try simp only [Act.put, List.setIfInBounds_toArray, List.set_cons_zero, List.set_cons_succ]
          refine take2 rfl (i := 9) (v := .slice a1 kn c1) (d := 110) rfl rfl (by kernel_rfl) (by kernel_rfl) (by kernel_rfl) (fun _ _ _ h => h) (Or.inl ⟨by rfl, ?_⟩) hHeld ?_
          · (intro W hW; obtain ⟨_, _, _, _, _, _, _, _⟩ := SS.out W (nextB B9.out hW); go_simp)
          try simp only [Act.put, List.setIfInBounds_toArray, List.set_cons_zero, List.set_cons_succ]
          refine take2 rfl (i := 10) (v := .int .i64 (kn : Nat)) (d := 111) rfl rfl (by kernel_rfl) (by kernel_rfl) (by kernel_rfl) (fun _ _ _ h => h) (Or.inl ⟨by rfl, ?_⟩) hHeld ?_
          · (intro W hW; (try dsimp only at hW); go_simp)
          try simp only [Act.put, List.setIfInBounds_toArray, List.set_cons_zero, List.set_cons_succ]
          refine take2 rfl (i := 11) (v := .slice (some ⟨kb, ko, none⟩) kn kc) (d := 112) rfl rfl (by kernel_rfl) (by kernel_rfl) (by kernel_rfl) (fun _ _ _ h => h) (Or.inl ⟨by rfl, ?_⟩) hHeld ?_
          · (intro W hW; (try dsimp only at hW); go_simp)
          try simp only [Act.put, List.setIfInBounds_toArray, List.set_cons_zero, List.set_cons_succ]
          refine take2 rfl (i := 12) (v := .int .i64 (kn : Nat)) (d := 113) rfl rfl (by kernel_rfl) (by kernel_rfl) (by kernel_rfl) (fun _ _ _ h => h) (Or.inl ⟨by rfl, ?_⟩) hHeld ?_
          · (intro W hW; (try dsimp only at hW); go_simp)
          try simp only [Act.put, List.setIfInBounds_toArray, List.set_cons_zero, List.set_cons_succ]
          refine take2 rfl (i := 13) (v := .bool false) (d := 114) rfl rfl (by kernel_rfl) (by kernel_rfl) (by kernel_rfl) (fun _ _ _ h => h) (Or.inl ⟨by rfl, ?_⟩) hHeld ?_
          · (intro W hW; (try dsimp only at hW); go_simp)
          try simp only [Act.put, List.setIfInBounds_toArray, List.set_cons_zero, List.set_cons_succ]
          refine take2 rfl (i := 14) (v := .bool false) (d := 115) rfl rfl (by kernel_rfl) (by kernel_rfl) (by kernel_rfl) (fun _ _ _ h => h) (Or.inl ⟨by rfl, ?_⟩) hHeld ?_
          · (intro W hW; (try dsimp only at hW); go_simp)
          try simp only [Act.put, List.setIfInBounds_toArray, List.set_cons_zero, List.set_cons_succ]
          refine wpAnyH_done (by kernel_rfl) ?_ _
          have O9 : Hid _ := O.out.below B9.out
          have KD : Hid (∀ W, Below w9.heap.size w9 W → Calls Try.prog 26 #[.agg #[.bool true, .slice a1 kn c1, .slice d1 n1 f1, .slice g1 o1 h1], .string K] W fun e w' => NewP W w' e (lf (delK La K))) := fun W b => by
            have := Drop_leaf _ (lf La) K W (O9.out.one.below b).pv FT.out HLa.out.rise rfl
            rwa [drop_lf FK.out] at this
          have FD : Hid (Fit (lf (delK La K))) := by
            have l0 := HLa.out.len
            have l1 := HLa.out.tot
            have l2 : (delK La K).length = La.length - 1 := delAt_len (fnd_true FK.out).1
            have l3 : tot (delK La K) ≤ tot La := tot_del_le _
            exact ⟨by simp only [lf]; omega, by simp only [lf]; omega, by simp [lf], by simp only [lf]; omega, by simp only [lf]; omega, fun k hk => by simp [lf] at hk, fun _ => rfl⟩
          have KP : Hid (∀ W v, Pv W v (lf (delK La K)) → Calls Try.prog 23 #[v, .string K, .string K] W fun e w' => NewP W w' e (lf La)) := fun W v P => by
            have := Put_leaf v (lf (delK La K)) K K W P FD.out (delK_rise HLa.out.rise K) rfl
            rwa [put_lf (del_none HLa.out.rise FK.out), ins_del HLa.out.rise FK.out] at this
          obtain ⟨pz, hpz⟩ : ∃ pz, pz = posS (delK La K) K := ⟨_, rfl⟩
          have KF : Hid (∀ W v, Pv W v (lf (delK La K)) → Calls Try.prog 24 #[v, .string K] W fun e w' => e = .returned (.tuple #[.int .i64 (pz : Nat), .bool false]) ∧ Below W.heap.size W w') := fun W v P => by
            have := Find_leaf v (lf (delK La K)) K W P FD.out.bd (delK_rise HLa.out.rise K) rfl
            rw [show (lf (delK La K)).keys = delK La K from rfl, del_none HLa.out.rise FK.out, ← hpz] at this
            exact this
          clear hpz
          clear b8 b9 y8 y9 hHeld p8 p9 ST8 ST9 KE1 KE2
          go_upto_region 25 with fail
          go_cut [11] from 116 to 130 (fun s wx => ∃ (C : Nat) (a5 : Option Addr) (m5 c5 : Nat) (d5 : Option Addr) (n5 f5 : Nat) (g5 : Option Addr) (o5 h5 : Nat), s = .pointer (some ⟨C, 0, none⟩) ∧ Hid (Bp wx C a5 m5 c5 d5 n5 f5 g5 o5 h5 (lf La) ∧ Below w9.heap.size w9 wx))
          case first =>
            refine wp_region_held_drew (S := (fun W => Below w9.heap.size w9 W)) (by kernel_rfl) (Below.refl _ _).drew (fun hHeld => ?_)
            refine take2 rfl (i := 0) (v := (.agg #[.bool true, .slice a1 kn c1, .slice d1 n1 f1, .slice g1 o1 h1])) (d := 116) rfl rfl (by kernel_rfl) (by kernel_rfl) (by kernel_rfl) (fun _ _ _ h => h) (Or.inl ⟨by rfl, ?_⟩) hHeld ?_
            · (intro W hW; obtain ⟨_, _, _, _, _, _, _, _⟩ := SS.out W (nextB B9.out hW); go_simp)
            try simp only [Act.put, List.setIfInBounds_toArray, List.set_cons_zero, List.set_cons_succ]
            refine take2 rfl (i := 1) (v := .slice (some ⟨kb, ko, none⟩) kn kc) (d := 117) rfl rfl (by kernel_rfl) (by kernel_rfl) (by kernel_rfl) (fun _ _ _ h => h) (Or.inl ⟨by rfl, ?_⟩) hHeld ?_
            · (intro W hW; (try dsimp only at hW); go_simp)
            try simp only [Act.put, List.setIfInBounds_toArray, List.set_cons_zero, List.set_cons_succ]
            refine take2 rfl (i := 2) (v := .int .i64 (kk : Nat)) (d := 118) rfl rfl (by kernel_rfl) (by kernel_rfl) (by kernel_rfl) (fun _ _ _ h => h) (Or.inl ⟨by rfl, ?_⟩) hHeld ?_
            · (intro W hW; (try dsimp only at hW); go_simp)
            try simp only [Act.put, List.setIfInBounds_toArray, List.set_cons_zero, List.set_cons_succ]
            refine take2 rfl (i := 3) (v := .pointer (some ⟨kb, ko + kk, none⟩)) (d := 119) rfl rfl (by kernel_rfl) (by kernel_rfl) (by kernel_rfl) (fun _ _ _ h => h) (Or.inl ⟨by rfl, ?_⟩) hHeld ?_
            · (intro W hW; (try dsimp only at hW); go_simp)
            try simp only [Act.put, List.setIfInBounds_toArray, List.set_cons_zero, List.set_cons_succ]
            refine take2 rfl (i := 4) (v := .string K) (d := 120) rfl rfl (by kernel_rfl) (by kernel_rfl) (by kernel_rfl) (fun _ _ _ h => h) (Or.inl ⟨by rfl, ?_⟩) hHeld ?_
            · (intro W hW; have kc0 := KC.out kk KK.out W (nextB O9.out.bel hW); rw [← HKK.out] at kc0; go_simp)
            try simp only [Act.put, List.setIfInBounds_toArray, List.set_cons_zero, List.set_cons_succ]
            refine take2 rfl (i := 6) (v := .slice (some ⟨kb, ko, none⟩) kn kc) (d := 122) rfl rfl (by kernel_rfl) (by kernel_rfl) (by kernel_rfl) (fun _ _ _ h => h) (Or.inl ⟨by rfl, ?_⟩) hHeld ?_
            · (intro W hW; (try dsimp only at hW); go_simp)
            try simp only [Act.put, List.setIfInBounds_toArray, List.set_cons_zero, List.set_cons_succ]
            refine take2 rfl (i := 7) (v := .int .i64 (kk : Nat)) (d := 123) rfl rfl (by kernel_rfl) (by kernel_rfl) (by kernel_rfl) (fun _ _ _ h => h) (Or.inl ⟨by rfl, ?_⟩) hHeld ?_
            · (intro W hW; (try dsimp only at hW); go_simp)
            try simp only [Act.put, List.setIfInBounds_toArray, List.set_cons_zero, List.set_cons_succ]
            refine take2 rfl (i := 8) (v := .pointer (some ⟨kb, ko + kk, none⟩)) (d := 124) rfl rfl (by kernel_rfl) (by kernel_rfl) (by kernel_rfl) (fun _ _ _ h => h) (Or.inl ⟨by rfl, ?_⟩) hHeld ?_
            · (intro W hW; (try dsimp only at hW); go_simp)
            try simp only [Act.put, List.setIfInBounds_toArray, List.set_cons_zero, List.set_cons_succ]
            refine take2 rfl (i := 9) (v := .string K) (d := 125) rfl rfl (by kernel_rfl) (by kernel_rfl) (by kernel_rfl) (fun _ _ _ h => h) (Or.inl ⟨by rfl, ?_⟩) hHeld ?_
            · (intro W hW; have kc0 := KC.out kk KK.out W (nextB O9.out.bel hW); rw [← HKK.out] at kc0; go_simp)
            try simp only [Act.put, List.setIfInBounds_toArray, List.set_cons_zero, List.set_cons_succ]
            refine take2 rfl (i := 10) (v := .slice (some ⟨kb, ko, none⟩) kn kc) (d := 126) rfl rfl (by kernel_rfl) (by kernel_rfl) (by kernel_rfl) (fun _ _ _ h => h) (Or.inl ⟨by rfl, ?_⟩) hHeld ?_
            · (intro W hW; (try dsimp only at hW); go_simp)
            try simp only [Act.put, List.setIfInBounds_toArray, List.set_cons_zero, List.set_cons_succ]
            refine take2 rfl (i := 11) (v := .int .i64 (kk : Nat)) (d := 127) rfl rfl (by kernel_rfl) (by kernel_rfl) (by kernel_rfl) (fun _ _ _ h => h) (Or.inl ⟨by rfl, ?_⟩) hHeld ?_
            · (intro W hW; (try dsimp only at hW); go_simp)
            try simp only [Act.put, List.setIfInBounds_toArray, List.set_cons_zero, List.set_cons_succ]
            refine take2 rfl (i := 12) (v := .pointer (some ⟨kb, ko + kk, none⟩)) (d := 128) rfl rfl (by kernel_rfl) (by kernel_rfl) (by kernel_rfl) (fun _ _ _ h => h) (Or.inl ⟨by rfl, ?_⟩) hHeld ?_
            · (intro W hW; (try dsimp only at hW); go_simp)
            try simp only [Act.put, List.setIfInBounds_toArray, List.set_cons_zero, List.set_cons_succ]
            refine take2 rfl (i := 13) (v := .string K) (d := 129) rfl rfl (by kernel_rfl) (by kernel_rfl) (by kernel_rfl) (fun _ _ _ h => h) (Or.inl ⟨by rfl, ?_⟩) hHeld ?_
            · (intro W hW; have kc0 := KC.out kk KK.out W (nextB O9.out.bel hW); rw [← HKK.out] at kc0; go_simp)
            try simp only [Act.put, List.setIfInBounds_toArray, List.set_cons_zero, List.set_cons_succ]
            refine wpAnyH_ready (rs := [5, 15]) (by kernel_rfl) (by simp) ?_
            refine cons22 rfl rfl rfl (fun K9 hK => ?_) (fun K9 hK => ?_)
            · go_simp
              go_at_call 26
              refine Calls.mono (KD.out _ (Below.refl _ _).drew) ?_
              rintro e w10 ⟨⟨v6, rfl, P6⟩, b6⟩
              obtain ⟨a6, m6, c6, d6, n6, f6, g6, o6, h6, rfl, _, _, _⟩ := P6.ex
              rw [lft] at P6
              have Q6 : Hid _ := P6
              clear P6
              go_wp2_with fail
              have B10 : Hid (Below w9.heap.size w9 w10) := nextB (Below.refl _ _).drew b6
              refine hK.out _ _ B10.out (fun hX => ?_)
              clear hK K9 hHeld
              have hHeld := hX
              clear hX
              try simp only [Act.put, List.setIfInBounds_toArray, List.set_cons_zero, List.set_cons_succ]
              refine wpAnyH_ready (rs := [14, 15]) (by kernel_rfl) (by simp) ?_
              refine cons22 rfl rfl rfl (fun K9 hK => ?_) (fun K9 hK => ?_)
              · go_simp
                go_at_call 23
                refine Calls.mono (KP.out _ _ Q6.out) ?_
                rintro e w11 ⟨⟨v7, rfl, P7⟩, b7⟩
                obtain ⟨a7, m7, c7, d7, n7, f7, g7, o7, h7, rfl, _, _, _⟩ := P7.ex
                rw [lft] at P7
                have Q7 : Hid _ := P7
                clear P7
                go_wp2_with fail
                have B11 : Hid (Below w9.heap.size w9 w11) := nextB B10.out b7
                refine hK.out _ _ B11.out (fun hX => ?_)
                clear hK K9 hHeld
                have hHeld := hX
                clear hX
                try simp only [Act.put, List.setIfInBounds_toArray, List.set_cons_zero, List.set_cons_succ]
                refine wpAnyH_ready (rs := [15]) (by kernel_rfl) (by simp) ?_
                refine cons2 rfl rfl (fun K9 hK => ?_)
                go_simp
                refine hK.out _ _ (nextB B11.out (allocB _ _)) (fun hX => ?_)
                clear hK K9 hHeld
                have hHeld := hX
                clear hX
                try simp only [Act.put, List.setIfInBounds_toArray, List.set_cons_zero, List.set_cons_succ]
                have FIN : Hid _ := And.intro (Bp.mk1 (p := lf La) (w := w11) Q7.out 26) (nextB B11.out (allocB w11 (.cells #[.bool true, .slice a7 m7 c7, .slice d7 n7 f7, .slice g7 o7 h7] 26)))
                simp only [lft] at FIN
                refine wpAnyH_ready (rs := [16]) (by kernel_rfl) (by simp) ?_
                refine cons2 rfl rfl (fun K9 hK => ?_)
                go_simp
                refine hK.out _ _ FIN.out.2 (fun hX => ?_)
                try simp only [Act.put, List.setIfInBounds_toArray, List.set_cons_zero, List.set_cons_succ]
                refine wpAnyH_done (by kernel_rfl) ?_ _
                go_wp2
                go_meet
                exact ⟨_, _, _, _, _, _, _, _, _, _, rfl, FIN.out⟩
              · go_simp
                have Z1 : Hid _ := And.intro (allocB (w10) (.cells #[.bool false, .slice none 0 0, .slice none 0 0, .slice none 0 0] 26)) (Bp.mk1 (p := zeroP) (w := w10) (pvZ _) 26)
                simp only [zeroP] at Z1
                refine hK.out _ _ (nextB B10.out (allocB _ _)) (fun hX => ?_)
                clear hK K9 hHeld
                have hHeld := hX
                clear hX
                try simp only [Act.put, List.setIfInBounds_toArray, List.set_cons_zero, List.set_cons_succ]
                generalize w10.alloc (.cells #[.bool false, .slice none 0 0, .slice none 0 0, .slice none 0 0] 26) = w11 at *
                refine wpAnyH_ready (rs := [14]) (by kernel_rfl) (by simp) ?_
                refine cons2 rfl rfl (fun K9 hK => ?_)
                go_simp
                go_at_call 23
                refine Calls.mono (KP.out _ _ (Q6.out.below Z1.out.1)) ?_
                rintro e w12 ⟨⟨v7, rfl, P7⟩, b7⟩
                obtain ⟨a7, m7, c7, d7, n7, f7, g7, o7, h7, rfl, _, _, _⟩ := P7.ex
                rw [lft] at P7
                have Q7 : Hid _ := P7
                clear P7
                go_wp2_with fail
                have B12 : Hid (Below w9.heap.size w9 w12) := nextB (nextB B10.out Z1.out.1) b7
                refine hK.out _ _ B12.out (fun hX => ?_)
                clear hK K9 hHeld
                have hHeld := hX
                clear hX
                try simp only [Act.put, List.setIfInBounds_toArray, List.set_cons_zero, List.set_cons_succ]
                have Z2 : Hid _ := Z1.out.2.below b7
                obtain ⟨x0, x1, x2, x3⟩ := Z2.out.b4
                simp only [zeroP] at x0
                have zf := Z2.out.fz
                have FIN : Hid _ := Z2.out.put (q := lf La) Q7.out
                unfold st4 at FIN
                simp only [lft] at FIN
                have BF : Hid _ := B12.out.grown FIN.out.2 B12.out.size (fun k hk => by cases hk; exact B10.out.size)
                refine wpAnyH_ready (rs := [16]) (by kernel_rfl) (by simp) ?_
                refine cons2 rfl rfl (fun K9 hK => ?_)
                go_simp
                refine hK.out _ _ BF.out (fun hX => ?_)
                try simp only [Act.put, List.setIfInBounds_toArray, List.set_cons_zero, List.set_cons_succ]
                refine wpAnyH_done (by kernel_rfl) ?_ _
                go_wp2
                go_meet
                exact ⟨_, _, _, _, _, _, _, _, _, _, rfl, FIN.out.1, BF.out⟩
            · go_simp
              have Z1 : Hid _ := And.intro (allocB w9 (.cells #[.bool false, .slice none 0 0, .slice none 0 0, .slice none 0 0] 26)).drew ((Bp.mk1 (p := zeroP) (w := w9) (pvZ _) 26).below (Below.refl _ _).drew)
              simp only [zeroP] at Z1
              refine hK.out _ _ Z1.out.1 (fun hX => ?_)
              clear hK K9 hHeld
              have hHeld := hX
              clear hX
              try simp only [Act.put, List.setIfInBounds_toArray, List.set_cons_zero, List.set_cons_succ]
              have BD : Hid _ := Z1.out.1
              generalize (w9.alloc (.cells #[.bool false, .slice none 0 0, .slice none 0 0, .slice none 0 0] 26)).drew = w10 at *
              refine wpAnyH_ready (rs := [5]) (by kernel_rfl) (by simp) ?_
              refine cons2 rfl rfl (fun K9 hK => ?_)
              go_simp
              go_at_call 26
              refine Calls.mono (KD.out _ BD.out) ?_
              rintro e w11 ⟨⟨v6, rfl, P6⟩, b6⟩
              obtain ⟨a6, m6, c6, d6, n6, f6, g6, o6, h6, rfl, _, _, _⟩ := P6.ex
              rw [lft] at P6
              have Q6 : Hid _ := P6
              clear P6
              go_wp2_with fail
              have B11 : Hid (Below w9.heap.size w9 w11) := nextB BD.out b6
              refine hK.out _ _ B11.out (fun hX => ?_)
              clear hK K9 hHeld
              have hHeld := hX
              clear hX
              try simp only [Act.put, List.setIfInBounds_toArray, List.set_cons_zero, List.set_cons_succ]
              refine wpAnyH_ready (rs := [14]) (by kernel_rfl) (by simp) ?_
              refine cons2 rfl rfl (fun K9 hK => ?_)
              go_simp
              go_at_call 23
              refine Calls.mono (KP.out _ _ Q6.out) ?_
              rintro e w12 ⟨⟨v7, rfl, P7⟩, b7⟩
              obtain ⟨a7, m7, c7, d7, n7, f7, g7, o7, h7, rfl, _, _, _⟩ := P7.ex
              rw [lft] at P7
              have Q7 : Hid _ := P7
              clear P7
              go_wp2_with fail
              have B12 : Hid (Below w9.heap.size w9 w12) := nextB B11.out b7
              refine hK.out _ _ B12.out (fun hX => ?_)
              clear hK K9 hHeld
              have hHeld := hX
              clear hX
              try simp only [Act.put, List.setIfInBounds_toArray, List.set_cons_zero, List.set_cons_succ]
              have Z2 : Hid _ := (Z1.out.2.below b6).below b7
              obtain ⟨x0, x1, x2, x3⟩ := Z2.out.b4
              simp only [zeroP] at x0
              have zf := Z2.out.fz
              have FIN : Hid _ := Z2.out.put (q := lf La) Q7.out
              unfold st4 at FIN
              simp only [lft] at FIN
              have BF : Hid _ := B12.out.grown FIN.out.2 B12.out.size (fun k hk => by cases hk; exact Nat.le_refl _)
              refine wpAnyH_ready (rs := [16]) (by kernel_rfl) (by simp) ?_
              refine cons2 rfl rfl (fun K9 hK => ?_)
              go_simp
              refine hK.out _ _ BF.out (fun hX => ?_)
              try simp only [Act.put, List.setIfInBounds_toArray, List.set_cons_zero, List.set_cons_succ]
              refine wpAnyH_done (by kernel_rfl) ?_ _
              go_wp2
              go_meet
              exact ⟨_, _, _, _, _, _, _, _, _, _, rfl, FIN.out.1, BF.out⟩
          case rest =>
            obtain ⟨C, a5, m5, c5, d5, n5, f5, g5, o5, h5, rfl, hX⟩ := hcut
            obtain ⟨wd, hwd⟩ : ∃ wd, wd = wc := ⟨_, rfl⟩
            subst hwd
            have BC : Hid _ := hX.out.2
            have OC : Hid _ := O9.out.below hX.out.2
            have SA : Hid (∀ W, Below wd.heap.size wd W → W.cell? ⟨A, 0, none⟩ = some (.bool true) ∧ W.cell? ⟨A, 1, none⟩ = some (.slice a1 kn c1) ∧ W.cell? ⟨A, 2, none⟩ = some (.slice d1 n1 f1) ∧ W.cell? ⟨A, 3, none⟩ = some (.slice g1 o1 h1)) := fun W b => by
              have q := (OC.out.one.below b).b4
              exact ⟨q.a0, q.a1, q.a2, q.a3⟩
            have SC : Hid (∀ W, Below wd.heap.size wd W → W.cell? ⟨C, 0, none⟩ = some (.bool true) ∧ W.cell? ⟨C, 1, none⟩ = some (.slice a5 m5 c5) ∧ W.cell? ⟨C, 2, none⟩ = some (.slice d5 n5 f5) ∧ W.cell? ⟨C, 3, none⟩ = some (.slice g5 o5 h5)) := fun W b => by
              have q := (hX.out.1.below b).b4
              exact ⟨q.a0, q.a1, q.a2, q.a3⟩
            have KE5 : Hid (∀ W, Below wd.heap.size wd W → Calls Try.prog 16 #[.agg #[.bool true, .slice a5 m5 c5, .slice d5 n5 f5, .slice g5 o5 h5]] W fun e w' => New W w' e (encP (lf La))) := fun W b => Encode_any _ (lf La) W (hX.out.1.below b).pv FT.out
            have KE6 : Hid (∀ W, Below wd.heap.size wd W → Calls Try.prog 16 #[.agg #[.bool true, .slice a1 kn c1, .slice d1 n1 f1, .slice g1 o1 h1]] W fun e w' => New W w' e (encP (lf La))) := fun W b => Encode_any _ (lf La) W (OC.out.one.below b).pv FT.out
            go_upto_region 26 with fail
            refine wp_region_held_drew (S := (fun W => Below wd.heap.size wd W)) (by kernel_rfl) (Below.refl _ _).drew (fun hHeld => ?_)
            refine take2 rfl (i := 0) (v := (.agg #[.bool true, .slice a1 kn c1, .slice d1 n1 f1, .slice g1 o1 h1])) (d := 132) rfl rfl (by kernel_rfl) (by kernel_rfl) (by kernel_rfl) (fun _ _ _ h => h) (Or.inl ⟨by rfl, ?_⟩) hHeld ?_
            · (intro W hW; obtain ⟨_, _, _, _⟩ := SA.out W hW; go_simp)
            try simp only [Act.put, List.setIfInBounds_toArray, List.set_cons_zero, List.set_cons_succ]
            refine take2 rfl (i := 1) (v := .slice (some ⟨kb, ko, none⟩) kn kc) (d := 133) rfl rfl (by kernel_rfl) (by kernel_rfl) (by kernel_rfl) (fun _ _ _ h => h) (Or.inl ⟨by rfl, ?_⟩) hHeld ?_
            · (intro W hW; (try dsimp only at hW); go_simp)
            try simp only [Act.put, List.setIfInBounds_toArray, List.set_cons_zero, List.set_cons_succ]
            refine take2 rfl (i := 2) (v := .int .i64 (kk : Nat)) (d := 134) rfl rfl (by kernel_rfl) (by kernel_rfl) (by kernel_rfl) (fun _ _ _ h => h) (Or.inl ⟨by rfl, ?_⟩) hHeld ?_
            · (intro W hW; (try dsimp only at hW); go_simp)
            try simp only [Act.put, List.setIfInBounds_toArray, List.set_cons_zero, List.set_cons_succ]
            refine take2 rfl (i := 3) (v := .pointer (some ⟨kb, ko + kk, none⟩)) (d := 135) rfl rfl (by kernel_rfl) (by kernel_rfl) (by kernel_rfl) (fun _ _ _ h => h) (Or.inl ⟨by rfl, ?_⟩) hHeld ?_
            · (intro W hW; (try dsimp only at hW); go_simp)
            try simp only [Act.put, List.setIfInBounds_toArray, List.set_cons_zero, List.set_cons_succ]
            refine take2 rfl (i := 4) (v := .string K) (d := 136) rfl rfl (by kernel_rfl) (by kernel_rfl) (by kernel_rfl) (fun _ _ _ h => h) (Or.inl ⟨by rfl, ?_⟩) hHeld ?_
            · (intro W hW; have kc0 := KC.out kk KK.out W (nextB OC.out.bel hW); rw [← HKK.out] at kc0; go_simp)
            try simp only [Act.put, List.setIfInBounds_toArray, List.set_cons_zero, List.set_cons_succ]
            refine take2 rfl (i := 6) (v := .slice (some ⟨kb, ko, none⟩) kn kc) (d := 138) rfl rfl (by kernel_rfl) (by kernel_rfl) (by kernel_rfl) (fun _ _ _ h => h) (Or.inl ⟨by rfl, ?_⟩) hHeld ?_
            · (intro W hW; (try dsimp only at hW); go_simp)
            try simp only [Act.put, List.setIfInBounds_toArray, List.set_cons_zero, List.set_cons_succ]
            refine take2 rfl (i := 7) (v := .int .i64 (kk : Nat)) (d := 139) rfl rfl (by kernel_rfl) (by kernel_rfl) (by kernel_rfl) (fun _ _ _ h => h) (Or.inl ⟨by rfl, ?_⟩) hHeld ?_
            · (intro W hW; (try dsimp only at hW); go_simp)
            try simp only [Act.put, List.setIfInBounds_toArray, List.set_cons_zero, List.set_cons_succ]
            refine take2 rfl (i := 8) (v := .pointer (some ⟨kb, ko + kk, none⟩)) (d := 140) rfl rfl (by kernel_rfl) (by kernel_rfl) (by kernel_rfl) (fun _ _ _ h => h) (Or.inl ⟨by rfl, ?_⟩) hHeld ?_
            · (intro W hW; (try dsimp only at hW); go_simp)
            try simp only [Act.put, List.setIfInBounds_toArray, List.set_cons_zero, List.set_cons_succ]
            refine take2 rfl (i := 9) (v := .string K) (d := 141) rfl rfl (by kernel_rfl) (by kernel_rfl) (by kernel_rfl) (fun _ _ _ h => h) (Or.inl ⟨by rfl, ?_⟩) hHeld ?_
            · (intro W hW; have kc0 := KC.out kk KK.out W (nextB OC.out.bel hW); rw [← HKK.out] at kc0; go_simp)
            try simp only [Act.put, List.setIfInBounds_toArray, List.set_cons_zero, List.set_cons_succ]
            refine wpAnyH_ready (rs := [5]) (by kernel_rfl) (by simp) ?_
            refine cons2 rfl rfl (fun K9 hK => ?_)
            go_simp
            go_at_call 26
            refine Calls.mono (KD.out _ (nextB BC.out (Below.refl _ _).drew)) ?_
            rintro e we ⟨⟨v6, rfl, P6⟩, b6⟩
            obtain ⟨a6, m6, c6, d6, n6, f6, g6, o6, h6, rfl, _, _, _⟩ := P6.ex
            rw [lft] at P6
            have Q6 : Hid _ := P6
            clear P6
            go_wp2_with fail
            refine hK.out _ _ (nextB (Below.refl _ _).drew b6) (fun hX => ?_)
            clear hK K9 hHeld
            have hHeld := hX
            clear hX
            try simp only [Act.put, List.setIfInBounds_toArray, List.set_cons_zero, List.set_cons_succ]
            refine wpAnyH_ready (rs := [10]) (by kernel_rfl) (by simp) ?_
            refine cons2 rfl rfl (fun K9 hK => ?_)
            go_simp
            go_at_call 24
            refine Calls.mono (KF.out _ _ Q6.out) ?_
            rintro e wf ⟨rfl, b7⟩
            go_wp2_with fail
            have BW : Hid (Below wd.heap.size wd wf) := nextB (nextB (Below.refl _ _).drew b6) b7
            refine hK.out _ _ BW.out (fun hX => ?_)
            clear hK K9 hHeld
            have hHeld := hX
            clear hX
            try simp only [Act.put, List.setIfInBounds_toArray, List.set_cons_zero, List.set_cons_succ]
            refine take2 rfl (i := 11) (v := .tuple #[.int .i64 (pz : Nat), .bool false]) (d := 131) rfl rfl (by kernel_rfl) (by kernel_rfl) (by kernel_rfl) (fun _ _ _ h => h) (Or.inl ⟨by rfl, ?_⟩) hHeld ?_
            · (intro W hW; (try dsimp only at hW); go_simp)
            try simp only [Act.put, List.setIfInBounds_toArray, List.set_cons_zero, List.set_cons_succ]
            refine take2 rfl (i := 12) (v := .int .i64 (pz : Nat)) (d := 143) rfl rfl (by kernel_rfl) (by kernel_rfl) (by kernel_rfl) (fun _ _ _ h => h) (Or.inl ⟨by rfl, ?_⟩) hHeld ?_
            · (intro W hW; (try dsimp only at hW); go_simp)
            try simp only [Act.put, List.setIfInBounds_toArray, List.set_cons_zero, List.set_cons_succ]
            refine take2 rfl (i := 13) (v := .bool false) (d := 144) rfl rfl (by kernel_rfl) (by kernel_rfl) (by kernel_rfl) (fun _ _ _ h => h) (Or.inl ⟨by rfl, ?_⟩) hHeld ?_
            · (intro W hW; (try dsimp only at hW); go_simp)
            try simp only [Act.put, List.setIfInBounds_toArray, List.set_cons_zero, List.set_cons_succ]
            refine take2 rfl (i := 14) (v := .int .i64 (pz : Nat)) (d := 12) rfl rfl (by kernel_rfl) (by kernel_rfl) (by kernel_rfl) (fun _ _ _ h => h) (Or.inl ⟨by rfl, ?_⟩) hHeld ?_
            · (intro W hW; (try dsimp only at hW); go_simp)
            try simp only [Act.put, List.setIfInBounds_toArray, List.set_cons_zero, List.set_cons_succ]
            refine take2 rfl (i := 15) (v := .bool false) (d := 13) rfl rfl (by kernel_rfl) (by kernel_rfl) (by kernel_rfl) (fun _ _ _ h => h) (Or.inl ⟨by rfl, ?_⟩) hHeld ?_
            · (intro W hW; (try dsimp only at hW); go_simp)
            try simp only [Act.put, List.setIfInBounds_toArray, List.set_cons_zero, List.set_cons_succ]
            refine wpAnyH_done (by kernel_rfl) ?_ _
            clear hHeld b6 b7 Q6
            go_upto_region 27 with fail
            refine wp_region_held_drew (S := (fun W => Below wf.heap.size wf W)) (by kernel_rfl) (Below.refl _ _).drew (fun hHeld => ?_)
            refine take2 rfl (i := 0) (v := .bool false) (d := 145) rfl rfl (by kernel_rfl) (by kernel_rfl) (by kernel_rfl) (fun _ _ _ h => h) (Or.inl ⟨by rfl, ?_⟩) hHeld ?_
            · (intro W hW; (try dsimp only at hW); go_simp)
            try simp only [Act.put, List.setIfInBounds_toArray, List.set_cons_zero, List.set_cons_succ]
            refine take2 rfl (i := 1) (v := .bool true) (d := 146) rfl rfl (by kernel_rfl) (by kernel_rfl) (by kernel_rfl) (fun _ _ _ h => h) (Or.inl ⟨by rfl, ?_⟩) hHeld ?_
            · (intro W hW; (try dsimp only at hW); go_simp)
            try simp only [Act.put, List.setIfInBounds_toArray, List.set_cons_zero, List.set_cons_succ]
            refine take2 rfl (i := 2) (v := .bool true) (d := 147) rfl rfl (by kernel_rfl) (by kernel_rfl) (by kernel_rfl) (fun _ _ _ h => h) (Or.inl ⟨by rfl, ?_⟩) hHeld ?_
            · (intro W hW; (try dsimp only at hW); go_simp)
            try simp only [Act.put, List.setIfInBounds_toArray, List.set_cons_zero, List.set_cons_succ]
            refine take2 rfl (i := 3) (v := (.agg #[.bool true, .slice a5 m5 c5, .slice d5 n5 f5, .slice g5 o5 h5])) (d := 148) rfl rfl (by kernel_rfl) (by kernel_rfl) (by kernel_rfl) (fun _ _ _ h => h) (Or.inl ⟨by rfl, ?_⟩) hHeld ?_
            · (intro W hW; obtain ⟨_, _, _, _⟩ := SC.out W (nextB BW.out hW); go_simp)
            try simp only [Act.put, List.setIfInBounds_toArray, List.set_cons_zero, List.set_cons_succ]
            refine take2 rfl (i := 6) (v := (.agg #[.bool true, .slice a1 kn c1, .slice d1 n1 f1, .slice g1 o1 h1])) (d := 151) rfl rfl (by kernel_rfl) (by kernel_rfl) (by kernel_rfl) (fun _ _ _ h => h) (Or.inl ⟨by rfl, ?_⟩) hHeld ?_
            · (intro W hW; obtain ⟨_, _, _, _⟩ := SA.out W (nextB BW.out hW); go_simp)
            try simp only [Act.put, List.setIfInBounds_toArray, List.set_cons_zero, List.set_cons_succ]
            refine wpAnyH_ready (rs := [4]) (by kernel_rfl) (by simp) ?_
            refine cons2 rfl rfl (fun K hK => ?_)
            go_simp
            (go_at_call 16; refine Calls.mono (KE5.out _ (nextB BW.out (Below.refl _ _).drew)) ?_; rintro e w14 ⟨⟨v8, rfl, p8⟩, b8⟩; obtain ⟨s8, t8, rfl, y8, _, _⟩ := p8.by)
            go_wp2_with fail
            refine hK.out _ _ (nextB (Below.refl _ _).drew b8) (fun hX => ?_)
            clear hK K hHeld
            have hHeld := hX
            clear hX
            try simp only [Act.put, List.setIfInBounds_toArray, List.set_cons_zero, List.set_cons_succ]
            have B14 : Hid (Below wf.heap.size wf w14) := nextB (Below.refl _ _).drew b8
            refine wpAnyH_strong (S' := fun W => Below w14.heap.size w14 W) (fun W b => nextB B14.out b) _ _ _ _ ?_
            clear hHeld
            have hHeld : Below w14.heap.size w14 w14 := Below.refl _ _
            have ST8 : Hid (∀ W, Below w14.heap.size w14 W → (convert 30 9 (.slice s8 (encP (lf La)).length t8)).run Try.prog W = .ok (.string (strOfNums (encP (lf La)))) W) := fun W b => (y8.below b).str
            refine take2 rfl (i := 5) (v := .string (strOfNums (encP (lf La)))) (d := 150) rfl rfl (by kernel_rfl) (by kernel_rfl) (by kernel_rfl) (fun _ _ _ h => h) (Or.inl ⟨by rfl, ?_⟩) hHeld ?_
            · (intro W hW; have st := ST8.out W hW; go_simp)
            try simp only [Act.put, List.setIfInBounds_toArray, List.set_cons_zero, List.set_cons_succ]
            refine wpAnyH_ready (rs := [7]) (by kernel_rfl) (by simp) ?_
            refine cons2 rfl rfl (fun K hK => ?_)
            go_simp
            (go_at_call 16; refine Calls.mono (KE6.out _ (nextB BW.out B14.out)) ?_; rintro e w15 ⟨⟨v9, rfl, p9⟩, b9⟩; obtain ⟨s9, t9, rfl, y9, _, _⟩ := p9.by)
            go_wp2_with fail
            refine hK.out _ _ b9 (fun hX => ?_)
            clear hK K hHeld
            have hHeld := hX
            clear hX
            try simp only [Act.put, List.setIfInBounds_toArray, List.set_cons_zero, List.set_cons_succ]
            have B15 : Hid (Below wf.heap.size wf w15) := nextB B14.out b9
            refine wpAnyH_strong (S' := fun W => Below w15.heap.size w15 W) (fun W b => nextB b9 b) _ _ _ _ ?_
            clear hHeld
            have hHeld : Below w15.heap.size w15 w15 := Below.refl _ _
            have ST9 : Hid (∀ W, Below w15.heap.size w15 W → (convert 30 9 (.slice s9 (encP (lf La)).length t9)).run Try.prog W = .ok (.string (strOfNums (encP (lf La)))) W) := fun W b => (y9.below b).str
            refine take2 rfl (i := 8) (v := .string (strOfNums (encP (lf La)))) (d := 153) rfl rfl (by kernel_rfl) (by kernel_rfl) (by kernel_rfl) (fun _ _ _ h => h) (Or.inl ⟨by rfl, ?_⟩) hHeld ?_
            · (intro W hW; have st := ST9.out W hW; go_simp)
            try simp only [Act.put, List.setIfInBounds_toArray, List.set_cons_zero, List.set_cons_succ]
            refine take2 rfl (i := 9) (v := .bool true) (d := 154) rfl rfl (by kernel_rfl) (by kernel_rfl) (by kernel_rfl) (fun _ _ _ h => h) (Or.inl ⟨by rfl, ?_⟩) hHeld ?_
            · (intro W hW; (try dsimp only at hW); go_simp)
            try simp only [Act.put, List.setIfInBounds_toArray, List.set_cons_zero, List.set_cons_succ]
            refine take2 rfl (i := 10) (v := .bool true) (d := 155) rfl rfl (by kernel_rfl) (by kernel_rfl) (by kernel_rfl) (fun _ _ _ h => h) (Or.inl ⟨by rfl, ?_⟩) hHeld ?_
            · (intro W hW; (try dsimp only at hW); go_simp)
            try simp only [Act.put, List.setIfInBounds_toArray, List.set_cons_zero, List.set_cons_succ]
            refine take2 rfl (i := 11) (v := .bool true) (d := 4) rfl rfl (by kernel_rfl) (by kernel_rfl) (by kernel_rfl) (fun _ _ _ h => h) (Or.inl ⟨by rfl, ?_⟩) hHeld ?_
            · (intro W hW; (try dsimp only at hW); go_simp)
            try simp only [Act.put, List.setIfInBounds_toArray, List.set_cons_zero, List.set_cons_succ]
            refine wpAnyH_done (by kernel_rfl) ?_ _
            go_wp2
            exact bodyPost_ret (v := .bool true) (by simp [results, Try.results8, go_sem]) rfl ⟨rfl, nextB (nextB OC.out.bel BW.out) B15.out⟩


set_option maxRecDepth 100000 in
theorem lifted (os : Os) (started : os.Started) (H : Type) (enc : TypeId × Value → H) :
    ReturnsInHanded {} Try.checked os 8 .any (Rows.pageOrderSpec.pre6 enc Try.prog Try.f8 Rows.pageOrderRow.domain false) (Rows.pageOrderSpec.post enc Try.prog Try.f8 false true false false) := by
  refine returnsInHanded_of_change_sized (C := Try.checked) own started (by kernel_rfl) Try.func8
    (ChangeSpec.witness6 (enc := enc) (C := Try.checked) false ⟨#[], #[.slice none 0 0, .int .i64 0], []⟩ 8 (by kernel_rfl) (by kernel_rfl) (by kernel_rfl) (by kernel_rfl)) ?_
  intro W base args ds gs before hval0 hW hcnd hwt _
  have hval : ∀ (j : Nat) t v, Try.f8.params[j]? = some t → args[j]? = some v → Value.okWide Try.prog W .any base t v := hval0
  have hwz : ∀ (j : Nat) t d, (Try.f8.params.toList ++ Rows.pageOrderSpec.plain.varTypes Try.prog)[j]? = some t → (ds ++ gs)[j]? = some d → ∀ n ∈ d.weights Try.prog t, n ≤ reachBytes := fun j t d ht hd n hn => by
    simpa using List.all_eq_true.1 hwt n (DataW.weights_mem_each ht hd n hn)
  have hW' := hW
  obtain ⟨p, q, hA0, hV, rfl, hfz, hnd⟩ := hW
  have hA : DataW.TrodAll enc Try.prog W 0 (fun _ => true) true Try.f8.params.toList args.toList ds p := hA0
  rw [Try.params8] at hA hval hwz
  obtain ⟨v0, vs0, d0, ds0, p0, q0, hargs, rfl, rfl, h0, r0⟩ := trodAll_cons hA
  obtain ⟨v1, vs1, d1, ds1, p1, q1, rfl, rfl, rfl, h1, r1⟩ := trodAll_cons r0
  obtain ⟨rfl, rfl, rfl⟩ := trodAll_nil r1
  obtain rfl : args = #[v0, v1] := by cases args; simp_all
  obtain ⟨rfl, rfl⟩ := trodVars_none hV
  have k0 := h0
  have lt0 : ∀ x ∈ p0, x.block < W.heap.size := by obtain ⟨m, hm⟩ := k0; exact DataW.trod_lt m _ _ _ hm
  obtain ⟨a0, len0, cap0, rfl⟩ := okWide_slice Try.underlying23 (hval 0 23 v0 rfl rfl)
  obtain ⟨z0, w0, x0⟩ : ∃ ss, Sl W a0 len0 cap0 (sv ss) ∧ Short ss := by
    obtain ⟨fuel, hf⟩ := h0
    obtain ⟨a, n, c, ss, e, hS, hs⟩ := tx_of (v := .slice a0 len0 cap0) hf (hwz 0 23 d0 rfl rfl)
    obtain ⟨rfl, rfl, rfl⟩ : a0 = a ∧ len0 = n ∧ cap0 = c := by simpa using e
    exact ⟨ss, hS, hs⟩
  obtain ⟨a1, rfl, rfl, rfl, w1⟩ := open_int Try.underlying3 (hval 1 3 v1 rfl rfl) h1
  clear hA0 hval0
  try simp only [List.append_nil, List.nil_append] at hW'
  refine (walk W a0 len0 cap0 z0 w0 x0 a1 w1).mono fun e W' ⟨he, bel⟩ => ?_
  subst he
  exact ⟨_, rfl, _, _, _, [], _, [], hW', trodAll_mk1 (shut_bool Try.underlying4 _), (trodAll_cons_mk (Below.trod laidOut (by kernel_rfl) (of_decide_eq_true (by kernel_rfl)) k0 bel lt0) (trodAll_cons_mk (shut_int Try.underlying3 w1) trodAll_mk0)), rfl, bel.frame _, fun h => by cases h⟩

theorem over : Rows.pageOrderRow.holds Try.pinned (OpenSpec.ofChange Rows.pageOrderSpec) :=
  OpenClaim.holds_of_wide 8 Try.f8 rfl rfl rfl rfl rfl rfl rfl ⟨rfl, rfl, rfl, rfl, rfl⟩ rfl rfl rfl rfl rfl (by kernel_rfl) Try.func8 (by kernel_rfl)
    (of_decide_eq_true (by kernel_rfl)) (by unfold Func.isWrapper; first | (rw [if_pos (by decide +kernel)]; kernel_rfl) | (rw [if_neg (by decide +kernel)]; exact ⟨rfl, rfl⟩))
    (fun os started H enc _ => lifted os started H enc)

end Go.Proofs.Ytfedcghkohfhlaa.pageOrder
namespace Go.Proofs.Ytfedcghkohfhlaa

theorem PageOrder_holds : Rows.PageOrderSaid := pageOrder.over

end Go.Proofs.Ytfedcghkohfhlaa
