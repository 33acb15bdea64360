/- The walks over publicanref4: Encode. -/
import Derived.Test.YtfedcghkohfhlaaT1
import Derived.Test.YtfedcghkohfhlaaR1
namespace Go.Proofs.Ytfedcghkohfhlaa
open Go.RowKit
set_option linter.unusedVariables false
set_option linter.unusedSimpArgs false

set_option maxRecDepth 100000 in
set_option maxHeartbeats 400000 in
theorem kEncode_leaf (v : Value) (p : Pg) (w : World) (h : Pv w v p) (f : Fit p) (hl : p.leaf = true) :
    Calls Try.prog 17 #[v] w fun e w' => New w w' e (encP p) := by
  rw [encP_leaf hl]
  obtain ⟨ka, kn, kc, va, vn, vc, ia, im, ic, rfl, h1, h2, h3⟩ := h.ex
  obtain ⟨lf, ks, vs, is⟩ := p
  simp only at h1 h2 h3 hl
  subst hl
  have l1 := h1.slen
  have l2 := h2.slen
  have b1 := f.keys
  have b2 := f.tk
  have b3 := f.tv
  have b4 := f.kids
  have l3 := h3.klen
  have ev := f.even rfl
  simp only at b1 b2 b3 b4 ev
  obtain rfl : kn = vn := by omega
  have n1 : kn ≤ 2000 := by omega
  have n1' : (kn : Int) ≤ 2000 := by omega
  have n3 : im ≤ 2001 := by omega
  simp only
  rw [l1]
  have g0 : Hid (∀ t, GI w w.heap.size true ka kn kc va kn vc ia im ic ks vs is (w.alloc (.cells #[.bool true, .slice ka kn kc, .slice va kn vc, .slice ia im ic] t))) := fun t => GI.new h1 h2 h3 t
  have LL : Hid _ := And.intro l1 l2
  have UW : IntKind.u64.wrap (kn : Int) = (kn : Int) := by rw [IntKind.wrap_u64]; omega
  have K0 : Hid _ := fun o : Obj => rPutU_any (some ⟨(w.alloc o).heap.size, 0, none⟩) 1 1 kn [76] _ (by_new (w.alloc o) 76 5 (by decide) (by decide)) (by omega) (by omega)
  simp only [World.size_alloc] at K0
  have EL : Hid (∀ k, (encH true kn ++ encI (ks.take k) (vs.take k)).length ≤ 62000) := fun k => by
    have t1 := tot_take_le ks k
    have t2 := tot_take_le vs k
    have t3 := encI_le (ks.take k) (vs.take k) (by omega) (by omega)
    have t4 := enc_len10 (u := kn) (by omega)
    have t5 : (ks.take k).length ≤ 2000 := by simp; omega
    show _ ≤ 62000
    rw [List.length_append]
    unfold encH
    rw [List.length_cons]
    omega
  clear h h1 h2 h3 f l1 l2 l3 b4
  go_enter Try.func17, Try.ntmps17
  go_wp2_with fail
  refine Calls.mono (K0.out _) ?_
  rintro e w1 ⟨⟨v1, rfl, o1⟩, bl1⟩
  have G1 : Hid (GI w w.heap.size true ka kn kc va kn vc ia im ic ks vs is w1) := (g0.out _).below (nextB (allocB _ _) bl1)
  have O1 : Hid (∃ base, Own w1 base v1 (encH true kn ++ encI (ks.take 0) (vs.take 0)) ∧ w.heap.size ≤ base) := by
    have o1' := o1
    simp only [World.size_alloc] at o1'
    exact ⟨w.heap.size + 1 + 1, by simpa [encI, encH, mark] using o1', by omega⟩
  clear o1 bl1 K0 g0
  go_wp2_with fail
  go_loopg [3, 4] kn (fun g bv iv wr => ∃ k : Nat, k ≤ kn ∧ g = kn - k ∧ iv = .int .i64 (k : Nat) ∧ Hid (∃ base, Own wr base bv (encH true kn ++ encI (ks.take k) (vs.take k)) ∧ w.heap.size ≤ base) ∧ Hid (GI w w.heap.size true ka kn kc va kn vc ia im ic ks vs is wr))
  case atStart => exact ⟨0, Nat.zero_le _, rfl, rfl, O1.out, G1.out⟩
  case round =>
    obtain ⟨k, hk, rfl, rfl, hO, hG⟩ := hrel
    have x0 := hG.out.box.a0
    have x1 := hG.out.box.a1
    have x2 := hG.out.box.a2
    have x3 := hG.out.box.a3
    by_cases c : k < kn
    · have c' : (k : Int) < (kn : Int) := by omega
      obtain ⟨b, o, rfl, _⟩ := hG.out.key.at (by omega)
      obtain ⟨b', o', rfl, _⟩ := hG.out.val.at (by omega)
      have e1 : wr.cell? ⟨b, o + k, none⟩ = some (.string (kAt ks k)) := hG.out.key.str c
      obtain ⟨base, o1, hb⟩ := hO.out
      obtain ⟨a1, cap1, rfl, y1, _, _⟩ := o1.by
      have K : Hid _ := rPutS_any a1 _ cap1 (kAt ks k) _ wr y1 (by have := EL.out k; omega) (Nat.le_trans (kAt_le (ss := ks) k) (by omega))
      have SN : Hid _ := encI_snoc (ks := ks) (vs := vs) (k := k) (by have := LL.out; omega) (by have := LL.out; omega)
      have KS : Hid ((kAt ks k).size ≤ 10000 ∧ (kAt vs k).size ≤ 10000) := ⟨Nat.le_trans (kAt_le (ss := ks) k) (by omega), Nat.le_trans (kAt_le (ss := vs) k) (by omega)⟩
      have LE : Hid _ := EL.out k
      clear o1 y1 hO
      generalize hacc : encH true kn ++ encI (ks.take k) (vs.take k) = acc at *
      have HA : Hid _ := hacc
      clear hacc
      obtain ⟨s, hs⟩ : ∃ s, s = kAt ks k := ⟨_, rfl⟩
      rw [← hs] at e1 K SN KS
      have HS0 : Hid _ := hs
      clear hs
      go_wp2_with fail
      refine Calls.mono K.out ?_
      rintro e w2 ⟨⟨v2, rfl, o2⟩, bl2⟩
      have hG2 : Hid _ := hG.out.below bl2
      have y0 := hG2.out.box.a0
      have y1 := hG2.out.box.a1
      have y2 := hG2.out.box.a2
      have e2 : w2.cell? ⟨b', o' + k, none⟩ = some (.string (kAt vs k)) := hG2.out.val.str c
      have E2 : Hid (acc ++ enc s.size ++ nums s = acc ++ encS s) := by show _ = _; unfold encS; simp
      rw [E2.out] at o2
      obtain ⟨a2, cap2, rfl, z2, _, _⟩ := o2.by
      have K2 : Hid _ := rPutS_any a2 _ cap2 (kAt vs k) _ w2 z2 (by have := LE.out; have := encS_le s (by have := KS.out; omega); have := KS.out; rw [List.length_append]; omega) KS.out.2
      clear o2 z2 K e1 x0 x1 x2 x3
      generalize (acc ++ encS s).length = n2 at *
      obtain ⟨t, ht⟩ : ∃ t, t = kAt vs k := ⟨_, rfl⟩
      rw [← ht] at e2 K2 SN
      have E3 : Hid (acc ++ encS s ++ enc t.size ++ nums t = acc ++ (encS s ++ encS t)) := by show _ = _; unfold encS; simp
      rw [E3.out] at K2
      have HT0 : Hid _ := ht
      clear ht
      go_wp2_with fail
      refine Calls.mono K2.out ?_
      rintro e w3 ⟨⟨v3, rfl, o3⟩, bl3⟩
      go_wp2_with fail
      go_roundg (kn - (k + 1))
      case measure => omega
      case rel =>
        refine ⟨k + 1, by omega, rfl, by go_num, ⟨w2.heap.size, ?_, ?_⟩, hG2.out.below bl3⟩
        · rw [SN.out, ← List.append_assoc, HA.out]
          exact o3
        · exact hG2.out.bel.size
    · obtain rfl : kn = k := by omega
      have L : Hid (encI (ks.take kn) (vs.take kn) = encI ks vs) := by show _ = _; rw [List.take_of_length_le (by have := LL.out; omega), List.take_of_length_le (by have := LL.out; omega)]
      by_cases i0 : im = 0
      · subst i0
        go_wp2_with fail
        go_rounds 1
        go_ret
        obtain ⟨base, o1, hb⟩ := hO.out
        rw [L.out] at o1
        exact ⟨⟨_, rfl, o1.mono hb⟩, hG.out.bel⟩
      · have i0' : (0 : Int) < (im : Int) := by omega
        go_wp2_with fail
        go_rounds 1
        go_ret
        obtain ⟨base, o1, hb⟩ := hO.out
        rw [L.out] at o1
        exact ⟨⟨_, rfl, o1.mono hb⟩, hG.out.bel⟩

set_option maxRecDepth 100000 in
set_option maxHeartbeats 4000000 in
theorem kEncode_branch (v : Value) (p : Pg) (w : World) (h : Pv w v p) (f : Fit p) (hl : p.leaf = false) :
    Calls Try.prog 17 #[v] w fun e w' => New w w' e (encP p) := by
  rw [encP_branch hl]
  obtain ⟨ka, kn, kc, va, vn, vc, ia, im, ic, rfl, h1, h2, h3⟩ := h.ex
  obtain ⟨lf, ks, vs, is⟩ := p
  simp only at h1 h2 h3 hl
  subst hl
  have l1 := h1.slen
  have l3 := h3.klen
  have b1 := f.keys
  have b2 := f.tk
  have b4 := f.kids
  have b5 := f.kid
  simp only at b1 b2 b4 b5
  have n1 : kn ≤ 2000 := by omega
  have n1' : (kn : Int) ≤ 2000 := by omega
  have n3 : im ≤ 2001 := by omega
  have n3' : (im : Int) ≤ 2001 := by omega
  simp only
  rw [l1]
  have g0 : Hid (∀ t, GI w w.heap.size false ka kn kc va vn vc ia im ic ks vs is (w.alloc (.cells #[.bool false, .slice ka kn kc, .slice va vn vc, .slice ia im ic] t))) := fun t => GI.new h1 h2 h3 t
  have LL : Hid _ := And.intro l1 l3
  have KB : Hid _ := b5
  have UW : IntKind.u64.wrap (kn : Int) = (kn : Int) := by rw [IntKind.wrap_u64]; omega
  have K0 : Hid _ := fun o : Obj => rPutU_any (some ⟨(w.alloc o).heap.size, 0, none⟩) 1 1 kn [66] _ (by_new (w.alloc o) 66 5 (by decide) (by decide)) (by omega) (by omega)
  simp only [World.size_alloc] at K0
  have EL : Hid (∀ k, (encH false kn ++ encK (ks.take k)).length ≤ 40000) := fun k => by
    have t1 := tot_take_le ks k
    have t3 := encK_le (ks.take k) (by omega)
    have t4 := enc_len10 (u := kn) (by omega)
    have t5 : (ks.take k).length ≤ 2000 := by simp; omega
    show _ ≤ 40000
    rw [List.length_append]
    unfold encH
    rw [List.length_cons]
    omega
  clear h h1 h2 h3 f l1 l3 b4 b5
  go_enter Try.func17, Try.ntmps17
  go_wp2_with fail
  refine Calls.mono (K0.out _) ?_
  rintro e w1 ⟨⟨v1, rfl, o1⟩, bl1⟩
  have G1 : Hid (GI w w.heap.size false ka kn kc va vn vc ia im ic ks vs is w1) := (g0.out _).below (nextB (allocB _ _) bl1)
  have O1 : Hid (∃ base, Own w1 base v1 (encH false kn ++ encK (ks.take 0)) ∧ w.heap.size ≤ base) := by
    have o1' := o1
    simp only [World.size_alloc] at o1'
    exact ⟨w.heap.size + 1 + 1, by simpa [encK, encH, mark] using o1', by omega⟩
  clear o1 bl1 K0 g0
  go_wp2_with fail
  go_loopg [3, 4] kn (fun g bv iv wr => ∃ k : Nat, k ≤ kn ∧ g = kn - k ∧ iv = .int .i64 (k : Nat) ∧ Hid (∃ base, Own wr base bv (encH false kn ++ encK (ks.take k)) ∧ w.heap.size ≤ base) ∧ Hid (GI w w.heap.size false ka kn kc va vn vc ia im ic ks vs is wr))
  case atStart => exact ⟨0, Nat.zero_le _, rfl, rfl, O1.out, G1.out⟩
  case round =>
    obtain ⟨k, hk, rfl, rfl, hO, hG⟩ := hrel
    have x0 := hG.out.box.a0
    have x1 := hG.out.box.a1
    have x2 := hG.out.box.a2
    have x3 := hG.out.box.a3
    by_cases c : k < kn
    · have c' : (k : Int) < (kn : Int) := by omega
      obtain ⟨b, o, rfl, _⟩ := hG.out.key.at (by omega)
      have e1 : wr.cell? ⟨b, o + k, none⟩ = some (.string (kAt ks k)) := hG.out.key.str c
      obtain ⟨base, o1, hb⟩ := hO.out
      obtain ⟨a1, cap1, rfl, y1, _, _⟩ := o1.by
      have K : Hid _ := rPutS_any a1 _ cap1 (kAt ks k) _ wr y1 (by have := EL.out k; omega) (Nat.le_trans (kAt_le (ss := ks) k) (by omega))
      have SN : Hid _ := encK_snoc (ks := ks) (k := k) (by have := LL.out; omega)
      have KS : Hid ((kAt ks k).size ≤ 10000) := Nat.le_trans (kAt_le (ss := ks) k) (by omega)
      have LE : Hid _ := EL.out k
      clear o1 y1 hO
      generalize hacc : encH false kn ++ encK (ks.take k) = acc at *
      have HA : Hid _ := hacc
      clear hacc
      obtain ⟨s, hs⟩ : ∃ s, s = kAt ks k := ⟨_, rfl⟩
      rw [← hs] at e1 K SN KS
      have HS0 : Hid _ := hs
      clear hs
      have E2 : Hid (acc ++ enc s.size ++ nums s = acc ++ encS s) := by show _ = _; unfold encS; simp
      rw [E2.out] at K
      generalize acc.length = n2 at *
      go_wp2_with fail
      refine Calls.mono K.out ?_
      rintro e w2 ⟨⟨v2, rfl, o2⟩, bl2⟩
      have hG2 : Hid _ := hG.out.below bl2
      have y0 := hG2.out.box.a0
      go_wp2_with fail
      go_roundg (kn - (k + 1))
      case measure => omega
      case rel =>
        refine ⟨k + 1, by omega, rfl, by go_num, ⟨wr.heap.size, ?_, ?_⟩, hG2.out⟩
        · rw [SN.out, ← List.append_assoc, HA.out]
          exact o2
        · exact hG.out.bel.size
    · obtain rfl : kn = k := by omega
      have L : Hid (encK (ks.take kn) = encK ks) := by show _ = _; rw [List.take_of_length_le (by have := LL.out; omega)]
      have EL2 : Hid (∀ k, (encH false kn ++ encK ks ++ encN (is.take k)).length ≤ 80000) := fun k => by
        have t1 := EL.out kn
        rw [L.out] at t1
        have t3 := encN_le (is.take k) (fun x hx => KB.out x (List.mem_of_mem_take hx))
        have t5 : (is.take k).length ≤ 2001 := by have := LL.out.2; simp; omega
        show _ ≤ 80000
        rw [List.length_append]
        omega
      have Q := hO.out
      rw [L.out] at Q
      have Z : encH false kn ++ encK ks = encH false kn ++ encK ks ++ encN (is.take 0) := by simp [encN]
      rw [Z] at Q
      have hO2 : Hid _ := Q
      clear Q Z hO
      go_wp2_with fail
      go_loopg [3, 5] im (fun g bv iv wr => ∃ k : Nat, k ≤ im ∧ g = im - k ∧ iv = .int .i64 (k : Nat) ∧ Hid (∃ base, Own wr base bv (encH false kn ++ encK ks ++ encN (is.take k)) ∧ w.heap.size ≤ base) ∧ Hid (GI w w.heap.size false ka kn kc va vn vc ia im ic ks vs is wr))
      case atStart => exact ⟨0, Nat.zero_le _, rfl, rfl, hO2.out, hG.out⟩
      case round =>
        clear x0 x1 x2 x3 hG
        obtain ⟨k, hk, rfl, rfl, hO, hG⟩ := hrel
        have x0 := hG.out.box.a0
        have x1 := hG.out.box.a1
        have x2 := hG.out.box.a2
        have x3 := hG.out.box.a3
        by_cases c : k < im
        · have c' : (k : Int) < (im : Int) := by omega
          obtain ⟨b, o, rfl, _⟩ := hG.out.kid.at (by omega)
          have e1 := hG.out.kid.num c
          have KL : is.getD k 0 < 18446744073709551616 := KB.out _ (by
            have : k < is.length := by have := LL.out; omega
            simp [List.getD, this])
          obtain ⟨base, o1, hb⟩ := hO.out
          obtain ⟨a1, cap1, rfl, y1, _, _⟩ := o1.by
          have K : Hid _ := rPutU_any a1 _ cap1 (is.getD k 0) _ wr y1 (by have := EL2.out k; omega) KL
          have SN : Hid _ := encN_snoc (ks := is) (k := k) (by have := LL.out; omega)
          clear o1 y1 hO
          generalize hacc : encH false kn ++ encK ks ++ encN (is.take k) = acc at *
          have HA : Hid _ := hacc
          clear hacc
          generalize is.getD k 0 = s at *
          generalize acc.length = n2 at *
          go_wp2_with fail
          refine Calls.mono K.out ?_
          rintro e w2 ⟨⟨v2, rfl, o2⟩, bl2⟩
          have hG2 : Hid _ := hG.out.below bl2
          go_wp2_with fail
          go_roundg (im - (k + 1))
          case measure => omega
          case rel =>
            refine ⟨k + 1, by omega, rfl, by go_num, ⟨wr.heap.size, ?_, ?_⟩, hG2.out⟩
            · rw [SN.out, ← List.append_assoc, HA.out]
              exact o2
            · exact hG.out.bel.size
        · obtain rfl : im = k := by omega
          have L : Hid (encN (is.take im) = encN is) := by show _ = _; rw [List.take_of_length_le (by have := LL.out; omega)]
          go_wp2
          go_ret
          obtain ⟨base, o1, hb⟩ := hO.out
          rw [L.out, List.append_assoc] at o1
          exact ⟨⟨_, rfl, o1.mono hb⟩, hG.out.bel⟩

theorem kEncode_any (v : Value) (p : Pg) (w : World) (h : Pv w v p) (f : Fit p) : Calls Try.prog 17 #[v] w fun e w' => New w w' e (encP p) := by
  cases hl : p.leaf with
  | true => exact kEncode_leaf v p w h f hl
  | false => exact kEncode_branch v p w h f hl

end Go.Proofs.Ytfedcghkohfhlaa
