/- The walks over package page: Encode of a branch; Bytes. -/
import Derived.Test.YtfedcghkohfhlaaQ4
namespace Go.Proofs.Ytfedcghkohfhlaa
open Go.RowKit
set_option linter.unusedVariables false
set_option linter.unusedSimpArgs false

set_option maxRecDepth 100000 in
set_option maxHeartbeats 4000000 in
theorem Encode_branch (v : Value) (p : Pg) (w : World) (h : Pv w v p) (f : Fit p) (hl : p.leaf = false) :
    Calls Try.prog 16 #[v] w fun e w' => New w w' e (encP p) := by
  rw [encP_branch hl]
  obtain ⟨ka, kn, kc, va, vn, vc, ia, im, ic, rfl, h1, h2, h3⟩ := h.ex
  obtain ⟨lf, ks, vs, is⟩ := p
  simp only at h1 h2 h3 hl
  subst hl
  have l1 := h1.slen
  have l3 := h3.klen
  have b1 := f.keys
  have b2 := f.tk
  have b4 := f.kids
  have b5 := f.kid
  simp only at b1 b2 b4 b5
  have n1 : kn ≤ 2000 := by omega
  have n1' : (kn : Int) ≤ 2000 := by omega
  have n3 : im ≤ 2001 := by omega
  have n3' : (im : Int) ≤ 2001 := by omega
  simp only
  rw [l1]
  have HK : Hid _ := And.intro h1 h3
  have LL : Hid _ := And.intro l1 l3
  have KB : Hid _ := b5
  clear h h2 h3 f h1 l1 l3 b1 b4 b5
  go_enter Try.func16, Try.ntmps16
  go_wp2_with (go_at_call 39; refine Calls.mono (head_any false kn _ (by omega)) ?_; rintro e w1 ⟨⟨v1, rfl, o1⟩, bl1⟩; obtain ⟨x0, x1, x2, x3⟩ := (B4.new w (.bool false) (.slice ka kn kc) (.slice va vn vc) (.slice ia im ic) 26).below bl1)
  have EI0 : Hid (EI w (w.heap.size + 1) w.heap.size (.bool false) (.slice ka kn kc) (.slice va vn vc) (.slice ia im ic) ka kn kc (sv ks) ia im ic (kv is) v1 (encH false kn ++ encK (ks.take 0)) w1) := by
    have s0 := bl1.size
    simp only [World.size_alloc] at s0
    refine ⟨?_, (B4.mk x0 x1 x2 x3), HK.out.1.below (nextB (allocB w _) bl1), HK.out.2.below (nextB (allocB w _) bl1), fun x p hx => ?_, fun g x hg p hx e => ?_, by omega, by omega, nextB (allocB w _) bl1, by omega⟩
    · simp only [World.size_alloc] at o1
      simpa [encK] using o1
    · have := HK.out.1.old p x hx
      omega
    · have a1 := HK.out.2.old p x hx
      have a2 := (o1.lt g hg).1
      simp only [World.size_alloc] at a2
      omega
  clear x0 x1 x2 x3 o1 bl1
  have B1 : w.heap.size < w1.heap.size := by have := EI0.out.bas; omega
  go_loopg [3, 40] kn (fun g bv iv wr => ∃ k : Nat, k ≤ kn ∧ g = kn - k ∧ iv = .int .i64 (k : Nat) ∧ Hid (EI w (w.heap.size + 1) w.heap.size (.bool false) (.slice ka kn kc) (.slice va vn vc) (.slice ia im ic) ka kn kc (sv ks) ia im ic (kv is) bv (encH false kn ++ encK (ks.take k)) wr))
  case atStart => exact ⟨0, Nat.zero_le _, rfl, rfl, EI0.out⟩
  case round =>
    obtain ⟨k, hk, rfl, rfl, hE⟩ := hrel
    have EL : Hid (∀ k, (encH false kn ++ encK (ks.take k)).length ≤ 40000) := fun k => by
      have t1 := tot_take_le ks k
      have t3 := encK_le (ks.take k) (by omega)
      have t4 := enc_len10 (u := kn) (by omega)
      have t5 : (ks.take k).length ≤ 2000 := by have := LL.out.1; simp; omega
      show _ ≤ 40000
      rw [List.length_append]
      unfold encH
      rw [List.length_cons]
      omega
    by_cases c : k < kn
    · have c' : (k : Int) < (kn : Int) := by omega
      obtain ⟨b, o, rfl, _⟩ := hE.out.key.at (by omega)
      have e1 := hE.out.key.str c
      have x1 := hE.out.box.a1
      have K : Hid _ := pS_any none 0 0 (kAt ks k) [] wr (By.empty wr) (by omega) (Nat.le_trans (kAt_le (ss := ks) k) (by omega))
      have SN : Hid _ := encK_snoc (ks := ks) (k := k) (by have := LL.out; omega)
      have L2 : Hid ((encS (kAt ks k)).length ≤ 40000) := by
        have t6 := encS_le (kAt ks k) (Nat.le_trans (kAt_le (ss := ks) k) (by omega))
        have t8 := kAt_le (ss := ks) k
        show _ ≤ 40000
        omega
      have e1' : wr.cell? ⟨b, o + k, none⟩ = some (.string (kAt ks k)) := e1
      clear e1
      generalize kAt ks k = s at *
      have ES : Hid ([] ++ enc s.size ++ nums s = encS s) := by show _ = _; unfold encS; simp
      rw [ES.out] at K
      generalize encS s = it at *
      go_wp2_with (first | (go_at_call 42; refine Calls.mono K.out ?_; rintro e w3 ⟨⟨v3, rfl, o3⟩, bl3⟩; obtain ⟨a3, cap3, rfl, y3, s3, hh3⟩ := o3.by) | (at_builtin; refine wpList_append_ba rfl (.tmp 44) (.tmp 46) rfl (w.heap.size + 1) _ (encH false kn ++ encK (ks.take k)) rfl (hE.out.own.below bl3) a3 _ cap3 it rfl y3 (by have := L2.out; have := EL.out k; omega) (Nat.le_trans hE.out.bas bl3.size) ?_; intro v4 w4 o4 g4 l4))
      go_roundg (kn - (k + 1))
      case measure => omega
      case rel =>
        refine ⟨k + 1, by omega, rfl, by go_num, ?_⟩
        rw [SN.out, ← List.append_assoc]
        exact hE.out.step bl3 o4 g4 l4
    · obtain rfl : kn = k := by omega
      have L : Hid (encK (ks.take kn) = encK ks) := by show _ = _; rw [List.take_of_length_le (by have := LL.out; omega)]
      have x3 := hE.out.box.a3
      have EL2 : Hid (∀ k, (encH false kn ++ encK ks ++ encN (is.take k)).length ≤ 80000) := fun k => by
        have t1 := EL.out kn
        rw [L.out] at t1
        have t3 := encN_le (is.take k) (fun x hx => KB.out x (List.mem_of_mem_take hx))
        have t5 : (is.take k).length ≤ 2001 := by have := LL.out.2; simp; omega
        show _ ≤ 80000
        rw [List.length_append]
        omega
      have Q := hE.out
      rw [L.out] at Q
      have Z : encH false kn ++ encK ks = encH false kn ++ encK ks ++ encN (is.take 0) := by simp [encN]
      rw [Z] at Q
      have hE2 : Hid _ := Q
      clear Q Z
      clear hE
      go_wp2_with fail
      go_loopg [3, 52] im (fun g bv iv wr => ∃ k : Nat, k ≤ im ∧ g = im - k ∧ iv = .int .i64 (k : Nat) ∧ Hid (EI w (w.heap.size + 1) w.heap.size (.bool false) (.slice ka kn kc) (.slice va vn vc) (.slice ia im ic) ka kn kc (sv ks) ia im ic (kv is) bv (encH false kn ++ encK ks ++ encN (is.take k)) wr))
      case atStart => exact ⟨0, Nat.zero_le _, rfl, rfl, hE2.out⟩
      case round =>
        obtain ⟨k, hk, rfl, rfl, hE⟩ := hrel
        by_cases c : k < im
        · have c' : (k : Int) < (im : Int) := by omega
          obtain ⟨b, o, rfl, _⟩ := hE.out.oth.at (by omega)
          have e1 := hE.out.oth.num c
          have KL : is.getD k 0 < 18446744073709551616 := KB.out _ (by
            have : k < is.length := by have := LL.out; omega
            simp [List.getD, this])
          have K : Hid _ := pU_any none 0 0 (is.getD k 0) [] wr (By.empty wr) (by omega) KL
          have SN : Hid _ := encN_snoc (ks := is) (k := k) (by have := LL.out; omega)
          have L2 : Hid ((enc (is.getD k 0)).length ≤ 10) := enc_len10 KL
          generalize is.getD k 0 = s at *
          rw [List.nil_append] at K
          generalize enc s = it at *
          go_wp2_with (first | (go_at_call 43; refine Calls.mono K.out ?_; rintro e w3 ⟨⟨v3, rfl, o3⟩, bl3⟩; obtain ⟨a3, cap3, rfl, y3, s3, hh3⟩ := o3.by) | (at_builtin; refine wpList_append_ba rfl (.tmp 56) (.tmp 58) rfl (w.heap.size + 1) _ (encH false kn ++ encK ks ++ encN (is.take k)) rfl (hE.out.own.below bl3) a3 _ cap3 it rfl y3 (by have := L2.out; have := EL2.out k; omega) (Nat.le_trans hE.out.bas bl3.size) ?_; intro v4 w4 o4 g4 l4))
          go_roundg (im - (k + 1))
          case measure => omega
          case rel =>
            refine ⟨k + 1, by omega, rfl, by go_num, ?_⟩
            rw [SN.out, ← List.append_assoc]
            exact hE.out.step bl3 o4 g4 l4
        · obtain rfl : im = k := by omega
          have L : Hid (encN (is.take im) = encN is) := by show _ = _; rw [List.take_of_length_le (by have := LL.out; omega)]
          go_wp2
          go_ret
          have O := hE.out.own
          rw [L.out, List.append_assoc] at O
          exact ⟨⟨_, rfl, O.mono (by omega)⟩, hE.out.bel⟩

theorem Encode_any (v : Value) (p : Pg) (w : World) (h : Pv w v p) (f : Fit p) : Calls Try.prog 16 #[v] w fun e w' => New w w' e (encP p) := by
  cases hl : p.leaf with
  | true => exact Encode_leaf v p w h f hl
  | false => exact Encode_branch v p w h f hl
theorem encP_len {p : Pg} (f : Fit p) : (encP p).length ≤ 90000 := by
  have t4 := enc_len10 (u := p.keys.length) (by have := f.keys; omega)
  have b1 := f.keys
  have b2 := f.tk
  have b3 := f.tv
  have b4 := f.kids
  cases hl : p.leaf with
  | true =>
    rw [encP_leaf hl, List.length_append]
    have := encI_le p.keys p.vals (by omega) (by omega)
    unfold encH
    rw [List.length_cons]
    omega
  | false =>
    rw [encP_branch hl, List.length_append, List.length_append]
    have := encK_le p.keys (by omega)
    have := encN_le p.kids f.kid
    unfold encH
    rw [List.length_cons]
    omega
theorem Bytes_any (v : Value) (p : Pg) (w : World) (h : Pv w v p) (f : Fit p) : Calls Try.prog 18 #[v] w fun e w' => e = .returned (.int .i64 ((encP p).length : Nat)) ∧ Below w.heap.size w w' := by
  have K : Hid _ := fun o => Encode_any v p (w.alloc o) (h.below (allocB w o)) f
  have L : Hid _ := encP_len f
  obtain ⟨ka, kn, kc, va, vn, vc, ia, im, ic, rfl, h1, h2, h3⟩ := h.ex
  clear h h1 h2 h3 f
  go_enter Try.func18, Try.ntmps18
  go_wp2_with fail
  refine Calls.mono (K.out _) ?_
  rintro e w1 ⟨⟨v1, rfl, o1⟩, b1⟩
  obtain ⟨a1, cap1, rfl, y1, s1, hh1⟩ := o1.by
  go_wp2
  go_ret
  exact ⟨rfl, nextB (allocB w _) b1⟩

end Go.Proofs.Ytfedcghkohfhlaa
