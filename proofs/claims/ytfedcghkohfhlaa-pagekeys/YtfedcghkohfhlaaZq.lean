/- The reference's Split of a leaf. -/
import Derived.Test.YtfedcghkohfhlaaZm
import Derived.Test.YtfedcghkohfhlaaU2
namespace Go.Proofs.Ytfedcghkohfhlaa
open Go.RowKit
set_option linter.unusedVariables false
set_option linter.unusedSimpArgs false

set_option maxRecDepth 100000 in
set_option maxHeartbeats 8000000 in
theorem kSplit_leaf (v : Value) (p : Pg) (w : World) (h : Pv w v p) (f : Fit p) (hl : p.leaf = true) (h2n : 2 ≤ p.keys.length) :
    Calls Try.prog 21 #[v] w fun e w' => NewT w w' e (lfA p) (kAt p.keys (mid (szs p.keys p.vals))) (lfB p) := by
  obtain ⟨ka, kn, kc, va, vn, vc, ia, im, ic, rfl, h1, h2, h3⟩ := h.ex
  obtain ⟨lf, ks, vs, is⟩ := p
  have ev := f.even
  have b1 := f.keys
  have b2 := f.tk
  have b3 := f.tv
  unfold lfA lfB
  simp only at h1 h2 h3 hl h2n ev b1 b2 b3 ⊢
  subst hl
  have ev' := ev rfl
  have l1 := h1.slen
  have l2 := h2.slen
  obtain rfl : kn = vn := by omega
  obtain ⟨kb, ko, rfl, _⟩ := h1.at (by omega)
  obtain ⟨vb, vo, rfl, _⟩ := h2.at (by omega)
  have fk := h1.fits
  have fv := h2.fits
  have n1 : kn ≤ 2000 := by omega
  have n2 : 2 ≤ kn := by omega
  have HH : Hid (∀ W, Below w.heap.size w W → Sl W (some ⟨kb, ko, none⟩) kn kc (sv ks) ∧ Sl W (some ⟨vb, vo, none⟩) kn vc (sv vs)) := fun W b => ⟨h1.below b, h2.below b⟩
  have FD : Hid (∀ a, Fit ⟨true, ks.drop a, vs.drop a, []⟩) := fun a => by
    have := tot_drop_le ks a
    have := tot_drop_le vs a
    exact ⟨by simp only [List.length_drop]; omega, by simp only [List.length_drop]; omega, by simp, by simp only; omega, by simp only; omega, fun k hk => by simp at hk, fun _ => by simp only [List.length_drop]; omega⟩
  have FU : Hid (∀ a, Fit ⟨true, ks.take a, vs.take a, []⟩) := fun a => by
    have := tot_take_le ks a
    have := tot_take_le vs a
    exact ⟨by simp only [List.length_take]; omega, by simp only [List.length_take]; omega, by simp, by simp only; omega, by simp only; omega, fun k hk => by simp at hk, fun _ => by simp only [List.length_take]; omega⟩
  obtain ⟨L, hL⟩ : ∃ L, L = szs ks vs := ⟨_, rfl⟩
  have HL : Hid (L = szs ks vs ∧ ks.length = kn ∧ L.length = kn) := ⟨hL, l1, by rw [hL, szs_len ks vs ev']; exact l1⟩
  have LB : Hid (sumL L ≤ 60000) := by
    have := encI_le ks vs (by omega) (by omega)
    rw [szs_sum, ← hL] at this
    show _ ≤ _
    omega
  rw [← hL]
  have MB : Hid _ := mid_bd (l := L) (by rw [HL.out.2.2]; omega)
  have TB : Hid _ := top_bd (l := L) (by rw [HL.out.2.2]; omega)
  have UB : Hid (∀ a, 1 ≤ a → a < kn → 1 ≤ upT (cS L) (kn - a) a) := fun a q1 q2 => (up_bd L (kn - a) a q1 (by rw [HL.out.2.2]; exact q2)).1
  obtain ⟨A, hA⟩ : ∃ A, A = kn / 2 := ⟨_, rfl⟩
  have dA : (kn : Int) / 2 = (A : Int) := by omega
  have nA : 1 ≤ A ∧ A < kn := by omega
  have T0 : Hid (upT (cS L) (kn - A) A = top L) := by show _ = _; unfold top; rw [HL.out.2.2, ← hA]
  obtain ⟨N1, hN1⟩ : ∃ N1, N1 = kn - 1 := ⟨_, rfl⟩
  have dN1 : (kn : Int) - 1 = (N1 : Int) := by omega
  have wN1 : IntKind.i64.wrap (N1 : Int) = (N1 : Int) := by rw [IntKind.wrap_i64]; omega
  have HN1 : Hid _ := hN1
  have c2 : (2 : Int) ≤ (kn : Int) := by omega
  have C0 : Hid (R2z w (.bool true) (.slice (some ⟨kb, ko, none⟩) kn kc) (.slice (some ⟨vb, vo, none⟩) kn vc) (.slice ia im ic) (((w.alloc (.cells #[.bool true, .slice (some ⟨kb, ko, none⟩) kn kc, .slice (some ⟨vb, vo, none⟩) kn vc, .slice ia im ic] 35)).alloc (.cells #[.bool false, .slice none 0 0, .slice none 0 0, .slice none 0 0] 35)).alloc (.cells #[.bool false, .slice none 0 0, .slice none 0 0, .slice none 0 0] 35))) := R2z.new w _ _ _ _ _ _ _
  clear h h1 h2 h3 f ev ev' l1 l2 b1 b2 b3 h2n hL hA hN1
  go_enter Try.func21, Try.ntmps21
  go_upto_region 1 with fail
  generalize ((w.alloc (.cells #[.bool true, .slice (some ⟨kb, ko, none⟩) kn kc, .slice (some ⟨vb, vo, none⟩) kn vc, .slice ia im ic] 35)).alloc (.cells #[.bool false, .slice none 0 0, .slice none 0 0, .slice none 0 0] 35)).alloc (.cells #[.bool false, .slice none 0 0, .slice none 0 0, .slice none 0 0] 35) = wp at *
  obtain ⟨x0, x1, x2, x3⟩ := C0.out.box
  go_upto_region 4 with fail
  clear x0 x1 x2 x3
  go_loopg [6] (kn - A) (fun g hv wr => ∃ a : Nat, 1 ≤ a ∧ a < kn ∧ g = kn - a ∧ hv = .int .i64 (a : Nat) ∧ Hid (upT (cS L) (kn - a) a = top L) ∧ Hid (R2z w (.bool true) (.slice (some ⟨kb, ko, none⟩) kn kc) (.slice (some ⟨vb, vo, none⟩) kn vc) (.slice ia im ic) wr))
  case atStart => exact ⟨A, nA.1, nA.2, rfl, rfl, T0.out, C0.out⟩
  case round =>
    clear C0 T0 dA nA
    obtain ⟨a, ha1, ha2, rfl, rfl, hT, R1⟩ := hrel
    have wa : IntKind.i64.wrap (a : Int) = (a : Int) := by rw [IntKind.wrap_i64]; omega
    cases hb : cS L a with
    | true =>
      have GO : Hid _ := upT_step (n := kn) hb ha2
      have LTa : Hid _ := cS_lt hb
      obtain ⟨O1, U1, ho1⟩ := cut_from Try.underlying23 strInfo kb ko kn kc a _ rfl (by omega) fk
      obtain ⟨O2, U2, ho2⟩ := cut_from Try.underlying23 strInfo vb vo kn vc a _ rfl (by omega) fv
      have KE : Hid (∀ W, Below w.heap.size w W → Calls Try.prog 17 #[.agg #[.bool true, .slice (some ⟨kb, O1, none⟩) (kn - a) (kc - a), .slice (some ⟨vb, O2, none⟩) (kn - a) (vc - a), .slice none 0 0]] W fun e w' => ∃ a5 c5, e = .returned (.slice a5 (hd (kn - a) + sumL (L.drop a)) c5) ∧ Below W.heap.size W w') := fun W b => by
        have P : Pv W (.agg #[.bool true, .slice (some ⟨kb, O1, none⟩) (kn - a) (kc - a), .slice (some ⟨vb, O2, none⟩) (kn - a) (vc - a), .slice none 0 0]) ⟨true, ks.drop a, vs.drop a, []⟩ := by
          refine Pv.mk' ?_ ?_ (Sl.empty _) (fun k hk => by simp at hk)
          · rw [← sv_drop]; exact (HH.out W b).1.drop (by omega) ho1
          · rw [← sv_drop]; exact (HH.out W b).2.drop (by omega) ho2
        refine Calls.mono (kEncode_any _ _ W P (FD.out a)) ?_
        rintro e w' ⟨⟨v, rfl, o⟩, b'⟩
        obtain ⟨a5, c5, rfl, _, _, _⟩ := o.by
        refine ⟨a5, c5, ?_, b'⟩
        rw [encP_leaf_len, szs_drop, ← HL.out.1, List.length_drop, HL.out.2.1]
      generalize hr : kn - a = r at *
      have HR : Hid _ := hr
      clear hr
      generalize kc - a = q1 at *
      generalize vc - a = q2 at *
      have HE : Hid (cS L a = (decide (1 < r) && decide (900 < hd r + sumL (L.drop a)))) := by show _ = _; unfold cS crB; rw [HL.out.2.2, HR.out]
      have EB : hd r + sumL (L.drop a) ≤ 100000 := by
        have e1 := sumL_split L a
        have e2 := hd_le (n := r) (by have := HR.out; omega)
        have e3 := LB.out
        omega
      generalize hd r + sumL (L.drop a) = E at *
      rw [hb] at HE
      have HE2 : Hid (1 < r ∧ 900 < E) := by have q := HE.out.symm; simp at q; exact q
      have cE : (900 : Int) < (E : Int) := by have := HE2.out; omega
      have ca : (a : Int) < (N1 : Int) := by have := HE2.out; have := HR.out; have := HN1.out; omega
      clear hb HE ho1 ho2
      go_wp2_with fail
      refine wp_region_held_drew (S := (fun W => W.cell? ⟨w.heap.size, 0, none⟩ = some (.bool true) ∧ W.cell? ⟨w.heap.size, 1, none⟩ = some (.slice (some ⟨kb, ko, none⟩) kn kc) ∧ W.cell? ⟨w.heap.size, 2, none⟩ = some (.slice (some ⟨vb, vo, none⟩) kn vc) ∧ W.cell? ⟨w.heap.size, 3, none⟩ = some (.slice ia im ic))) (by kernel_rfl) (s4_of (R1.out.next (Below.refl _ _).drew).box) (fun hHeld => ?_)
      have R2 : Hid _ := R1.out.next (Below.refl wr.heap.size wr).drew
      generalize wr.drew = wz at *
      refine take2 rfl (i := 0) (v := .int .i64 (a : Nat)) (d := 18) rfl rfl (by kernel_rfl) (by kernel_rfl) (by kernel_rfl) (fun _ _ _ h => h) (Or.inl ⟨by rfl, ?_⟩) hHeld ?_
      · (intro W hW; (try dsimp only at hW); go_simp)
      try simp only [Act.put, List.setIfInBounds_toArray, List.set_cons_zero, List.set_cons_succ]
      refine take2 rfl (i := 1) (v := .int .i64 (kn : Nat)) (d := 19) rfl rfl (by kernel_rfl) (by kernel_rfl) (by kernel_rfl) (fun _ _ _ h => h) (Or.inl ⟨by rfl, ?_⟩) hHeld ?_
      · (intro W hW; (try dsimp only at hW); go_simp)
      try simp only [Act.put, List.setIfInBounds_toArray, List.set_cons_zero, List.set_cons_succ]
      refine take2 rfl (i := 2) (v := .int .i64 (N1 : Nat)) (d := 20) rfl rfl (by kernel_rfl) (by kernel_rfl) (by kernel_rfl) (fun _ _ _ h => h) (Or.inl ⟨by rfl, ?_⟩) hHeld ?_
      · (intro W hW; (try dsimp only at hW); go_simp)
      try simp only [Act.put, List.setIfInBounds_toArray, List.set_cons_zero, List.set_cons_succ]
      refine take2 rfl (i := 3) (v := .bool true) (d := 21) rfl rfl (by kernel_rfl) (by kernel_rfl) (by kernel_rfl) (fun _ _ _ h => h) (Or.inl ⟨by rfl, ?_⟩) hHeld ?_
      · (intro W hW; (try dsimp only at hW); go_simp)
      try simp only [Act.put, List.setIfInBounds_toArray, List.set_cons_zero, List.set_cons_succ]
      refine take2 rfl (i := 4) (v := .bool true) (d := 22) rfl rfl (by kernel_rfl) (by kernel_rfl) (by kernel_rfl) (fun _ _ _ h => h) (Or.inl ⟨by rfl, ?_⟩) hHeld ?_
      · (intro W hW; (try dsimp only at hW); go_simp)
      try simp only [Act.put, List.setIfInBounds_toArray, List.set_cons_zero, List.set_cons_succ]
      refine take2 rfl (i := 5) (v := .pointer (some ⟨w.heap.size, 1, none⟩)) (d := 23) rfl rfl (by kernel_rfl) (by kernel_rfl) (by kernel_rfl) (fun _ _ _ h => h) (Or.inl ⟨by rfl, ?_⟩) hHeld ?_
      · (intro W hW; (try dsimp only at hW); go_simp)
      try simp only [Act.put, List.setIfInBounds_toArray, List.set_cons_zero, List.set_cons_succ]
      refine take2 rfl (i := 6) (v := .slice (some ⟨kb, ko, none⟩) kn kc) (d := 24) rfl rfl (by kernel_rfl) (by kernel_rfl) (by kernel_rfl) (fun _ _ _ h => h) (Or.inl ⟨by rfl, ?_⟩) hHeld ?_
      · (intro W hW; (try dsimp only at hW); go_simp)
      try simp only [Act.put, List.setIfInBounds_toArray, List.set_cons_zero, List.set_cons_succ]
      refine take2 rfl (i := 7) (v := .int .i64 (a : Nat)) (d := 25) rfl rfl (by kernel_rfl) (by kernel_rfl) (by kernel_rfl) (fun _ _ _ h => h) (Or.inl ⟨by rfl, ?_⟩) hHeld ?_
      · (intro W hW; (try dsimp only at hW); go_simp)
      try simp only [Act.put, List.setIfInBounds_toArray, List.set_cons_zero, List.set_cons_succ]
      refine take2 rfl (i := 8) (v := .slice (some ⟨kb, O1, none⟩) r q1) (d := 26) rfl rfl (by kernel_rfl) (by kernel_rfl) (by kernel_rfl) (fun _ _ _ h => h) (Or.inl ⟨by rfl, ?_⟩) hHeld ?_
      · (intro W hW; (try dsimp only at hW); go_simp)
      try simp only [Act.put, List.setIfInBounds_toArray, List.set_cons_zero, List.set_cons_succ]
      refine take2 rfl (i := 9) (v := .pointer (some ⟨w.heap.size, 2, none⟩)) (d := 27) rfl rfl (by kernel_rfl) (by kernel_rfl) (by kernel_rfl) (fun _ _ _ h => h) (Or.inl ⟨by rfl, ?_⟩) hHeld ?_
      · (intro W hW; (try dsimp only at hW); go_simp)
      try simp only [Act.put, List.setIfInBounds_toArray, List.set_cons_zero, List.set_cons_succ]
      refine take2 rfl (i := 10) (v := .slice (some ⟨vb, vo, none⟩) kn vc) (d := 28) rfl rfl (by kernel_rfl) (by kernel_rfl) (by kernel_rfl) (fun _ _ _ h => h) (Or.inl ⟨by rfl, ?_⟩) hHeld ?_
      · (intro W hW; (try dsimp only at hW); go_simp)
      try simp only [Act.put, List.setIfInBounds_toArray, List.set_cons_zero, List.set_cons_succ]
      refine take2 rfl (i := 11) (v := .int .i64 (a : Nat)) (d := 29) rfl rfl (by kernel_rfl) (by kernel_rfl) (by kernel_rfl) (fun _ _ _ h => h) (Or.inl ⟨by rfl, ?_⟩) hHeld ?_
      · (intro W hW; (try dsimp only at hW); go_simp)
      try simp only [Act.put, List.setIfInBounds_toArray, List.set_cons_zero, List.set_cons_succ]
      refine take2 rfl (i := 12) (v := .slice (some ⟨vb, O2, none⟩) r q2) (d := 30) rfl rfl (by kernel_rfl) (by kernel_rfl) (by kernel_rfl) (fun _ _ _ h => h) (Or.inl ⟨by rfl, ?_⟩) hHeld ?_
      · (intro W hW; (try dsimp only at hW); go_simp)
      try simp only [Act.put, List.setIfInBounds_toArray, List.set_cons_zero, List.set_cons_succ]
      refine take2 rfl (i := 13) (v := (.agg #[.bool true, .slice (some ⟨kb, O1, none⟩) r q1, .slice (some ⟨vb, O2, none⟩) r q2, .slice none 0 0])) (d := 31) rfl rfl (by kernel_rfl) (by kernel_rfl) (by kernel_rfl) (fun _ _ _ h => h) (Or.inl ⟨by rfl, ?_⟩) hHeld ?_
      · (intro W hW; (try dsimp only at hW); go_simp)
      try simp only [Act.put, List.setIfInBounds_toArray, List.set_cons_zero, List.set_cons_succ]
      refine wpAnyH_ready (rs := [14]) (by kernel_rfl) (by simp) ?_
      refine cons2 rfl rfl (fun K hK => ?_)
      go_simp
      (go_at_call 17; refine Calls.mono (KE.out _ (R2.out.bel)) ?_; rintro e w5 ⟨a5, c5, rfl, b5⟩; have R5 : Hid _ := R2.out.next b5)
      go_wp2_with fail
      refine hK.out _ _ (s4_of R5.out.box) (fun hX => ?_)
      clear hK K hHeld
      have hHeld := hX
      clear hX
      try simp only [Act.put, List.setIfInBounds_toArray, List.set_cons_zero, List.set_cons_succ]
      refine take2 rfl (i := 15) (v := .int .i64 (E : Nat)) (d := 33) rfl rfl (by kernel_rfl) (by kernel_rfl) (by kernel_rfl) (fun _ _ _ h => h) (Or.inl ⟨by rfl, ?_⟩) hHeld ?_
      · (intro W hW; (try dsimp only at hW); go_simp)
      try simp only [Act.put, List.setIfInBounds_toArray, List.set_cons_zero, List.set_cons_succ]
      refine take2 rfl (i := 16) (v := .bool true) (d := 34) rfl rfl (by kernel_rfl) (by kernel_rfl) (by kernel_rfl) (fun _ _ _ h => h) (Or.inl ⟨by rfl, ?_⟩) hHeld ?_
      · (intro W hW; (try dsimp only at hW); go_simp)
      try simp only [Act.put, List.setIfInBounds_toArray, List.set_cons_zero, List.set_cons_succ]
      refine take2 rfl (i := 17) (v := .bool true) (d := 35) rfl rfl (by kernel_rfl) (by kernel_rfl) (by kernel_rfl) (fun _ _ _ h => h) (Or.inl ⟨by rfl, ?_⟩) hHeld ?_
      · (intro W hW; (try dsimp only at hW); go_simp)
      try simp only [Act.put, List.setIfInBounds_toArray, List.set_cons_zero, List.set_cons_succ]
      refine wpAnyH_done (by kernel_rfl) ?_ _
      go_wp2
      go_roundg (kn - (a + 1))
      case measure => have := HR.out; omega
      case rel => exact ⟨a + 1, by omega, by have := HE2.out; have := HR.out; omega, rfl, by go_num, by rw [← GO.out]; exact hT.out, R5.out⟩
    | false =>
      have TP : Hid (top L = a) := by show _ = _; rw [← hT.out]; exact upT_stop hb
      go_upto_region 4 with fail
      go_cut [35] from 18 to 35 (fun s wx => s = .bool false ∧ Hid (R2z w (.bool true) (.slice (some ⟨kb, ko, none⟩) kn kc) (.slice (some ⟨vb, vo, none⟩) kn vc) (.slice ia im ic) wx))
      case first =>
        by_cases c : a < N1
        · have ca : (a : Int) < (N1 : Int) := by omega
          obtain ⟨O1, U1, ho1⟩ := cut_from Try.underlying23 strInfo kb ko kn kc a _ rfl (by omega) fk
          obtain ⟨O2, U2, ho2⟩ := cut_from Try.underlying23 strInfo vb vo kn vc a _ rfl (by omega) fv
          have KE : Hid (∀ W, Below w.heap.size w W → Calls Try.prog 17 #[.agg #[.bool true, .slice (some ⟨kb, O1, none⟩) (kn - a) (kc - a), .slice (some ⟨vb, O2, none⟩) (kn - a) (vc - a), .slice none 0 0]] W fun e w' => ∃ a5 c5, e = .returned (.slice a5 (hd (kn - a) + sumL (L.drop a)) c5) ∧ Below W.heap.size W w') := fun W b => by
            have P : Pv W (.agg #[.bool true, .slice (some ⟨kb, O1, none⟩) (kn - a) (kc - a), .slice (some ⟨vb, O2, none⟩) (kn - a) (vc - a), .slice none 0 0]) ⟨true, ks.drop a, vs.drop a, []⟩ := by
              refine Pv.mk' ?_ ?_ (Sl.empty _) (fun k hk => by simp at hk)
              · rw [← sv_drop]; exact (HH.out W b).1.drop (by omega) ho1
              · rw [← sv_drop]; exact (HH.out W b).2.drop (by omega) ho2
            refine Calls.mono (kEncode_any _ _ W P (FD.out a)) ?_
            rintro e w' ⟨⟨v, rfl, o⟩, b'⟩
            obtain ⟨a5, c5, rfl, _, _, _⟩ := o.by
            refine ⟨a5, c5, ?_, b'⟩
            rw [encP_leaf_len, szs_drop, ← HL.out.1, List.length_drop, HL.out.2.1]
          generalize hr : kn - a = r at *
          have HR : Hid _ := hr
          clear hr
          generalize kc - a = q1 at *
          generalize vc - a = q2 at *
          have HE : Hid (cS L a = (decide (1 < r) && decide (900 < hd r + sumL (L.drop a)))) := by show _ = _; unfold cS crB; rw [HL.out.2.2, HR.out]
          have EB : hd r + sumL (L.drop a) ≤ 100000 := by
            have e1 := sumL_split L a
            have e2 := hd_le (n := r) (by have := HR.out; omega)
            have e3 := LB.out
            omega
          generalize hd r + sumL (L.drop a) = E at *
          rw [hb] at HE
          have HE2 : Hid (E ≤ 900) := by
            have q := HE.out.symm
            rw [decide_eq_true (show 1 < r by have := HR.out; have := HN1.out; omega), Bool.true_and] at q
            have := of_decide_eq_false q
            show _ ≤ _
            omega
          have cE : ¬ (900 : Int) < (E : Int) := by have := HE2.out; omega
          clear hb HE ho1 ho2
          refine wp_region_held_drew (S := (fun W => W.cell? ⟨w.heap.size, 0, none⟩ = some (.bool true) ∧ W.cell? ⟨w.heap.size, 1, none⟩ = some (.slice (some ⟨kb, ko, none⟩) kn kc) ∧ W.cell? ⟨w.heap.size, 2, none⟩ = some (.slice (some ⟨vb, vo, none⟩) kn vc) ∧ W.cell? ⟨w.heap.size, 3, none⟩ = some (.slice ia im ic))) (by kernel_rfl) (s4_of (R1.out.next (Below.refl _ _).drew).box) (fun hHeld => ?_)
          have R2 : Hid _ := R1.out.next (Below.refl wr.heap.size wr).drew
          generalize wr.drew = wz at *
          refine take2 rfl (i := 0) (v := .int .i64 (a : Nat)) (d := 18) rfl rfl (by kernel_rfl) (by kernel_rfl) (by kernel_rfl) (fun _ _ _ h => h) (Or.inl ⟨by rfl, ?_⟩) hHeld ?_
          · (intro W hW; (try dsimp only at hW); go_simp)
          try simp only [Act.put, List.setIfInBounds_toArray, List.set_cons_zero, List.set_cons_succ]
          refine take2 rfl (i := 1) (v := .int .i64 (kn : Nat)) (d := 19) rfl rfl (by kernel_rfl) (by kernel_rfl) (by kernel_rfl) (fun _ _ _ h => h) (Or.inl ⟨by rfl, ?_⟩) hHeld ?_
          · (intro W hW; (try dsimp only at hW); go_simp)
          try simp only [Act.put, List.setIfInBounds_toArray, List.set_cons_zero, List.set_cons_succ]
          refine take2 rfl (i := 2) (v := .int .i64 (N1 : Nat)) (d := 20) rfl rfl (by kernel_rfl) (by kernel_rfl) (by kernel_rfl) (fun _ _ _ h => h) (Or.inl ⟨by rfl, ?_⟩) hHeld ?_
          · (intro W hW; (try dsimp only at hW); go_simp)
          try simp only [Act.put, List.setIfInBounds_toArray, List.set_cons_zero, List.set_cons_succ]
          refine take2 rfl (i := 3) (v := .bool true) (d := 21) rfl rfl (by kernel_rfl) (by kernel_rfl) (by kernel_rfl) (fun _ _ _ h => h) (Or.inl ⟨by rfl, ?_⟩) hHeld ?_
          · (intro W hW; (try dsimp only at hW); go_simp)
          try simp only [Act.put, List.setIfInBounds_toArray, List.set_cons_zero, List.set_cons_succ]
          refine take2 rfl (i := 4) (v := .bool true) (d := 22) rfl rfl (by kernel_rfl) (by kernel_rfl) (by kernel_rfl) (fun _ _ _ h => h) (Or.inl ⟨by rfl, ?_⟩) hHeld ?_
          · (intro W hW; (try dsimp only at hW); go_simp)
          try simp only [Act.put, List.setIfInBounds_toArray, List.set_cons_zero, List.set_cons_succ]
          refine take2 rfl (i := 5) (v := .pointer (some ⟨w.heap.size, 1, none⟩)) (d := 23) rfl rfl (by kernel_rfl) (by kernel_rfl) (by kernel_rfl) (fun _ _ _ h => h) (Or.inl ⟨by rfl, ?_⟩) hHeld ?_
          · (intro W hW; (try dsimp only at hW); go_simp)
          try simp only [Act.put, List.setIfInBounds_toArray, List.set_cons_zero, List.set_cons_succ]
          refine take2 rfl (i := 6) (v := .slice (some ⟨kb, ko, none⟩) kn kc) (d := 24) rfl rfl (by kernel_rfl) (by kernel_rfl) (by kernel_rfl) (fun _ _ _ h => h) (Or.inl ⟨by rfl, ?_⟩) hHeld ?_
          · (intro W hW; (try dsimp only at hW); go_simp)
          try simp only [Act.put, List.setIfInBounds_toArray, List.set_cons_zero, List.set_cons_succ]
          refine take2 rfl (i := 7) (v := .int .i64 (a : Nat)) (d := 25) rfl rfl (by kernel_rfl) (by kernel_rfl) (by kernel_rfl) (fun _ _ _ h => h) (Or.inl ⟨by rfl, ?_⟩) hHeld ?_
          · (intro W hW; (try dsimp only at hW); go_simp)
          try simp only [Act.put, List.setIfInBounds_toArray, List.set_cons_zero, List.set_cons_succ]
          refine take2 rfl (i := 8) (v := .slice (some ⟨kb, O1, none⟩) r q1) (d := 26) rfl rfl (by kernel_rfl) (by kernel_rfl) (by kernel_rfl) (fun _ _ _ h => h) (Or.inl ⟨by rfl, ?_⟩) hHeld ?_
          · (intro W hW; (try dsimp only at hW); go_simp)
          try simp only [Act.put, List.setIfInBounds_toArray, List.set_cons_zero, List.set_cons_succ]
          refine take2 rfl (i := 9) (v := .pointer (some ⟨w.heap.size, 2, none⟩)) (d := 27) rfl rfl (by kernel_rfl) (by kernel_rfl) (by kernel_rfl) (fun _ _ _ h => h) (Or.inl ⟨by rfl, ?_⟩) hHeld ?_
          · (intro W hW; (try dsimp only at hW); go_simp)
          try simp only [Act.put, List.setIfInBounds_toArray, List.set_cons_zero, List.set_cons_succ]
          refine take2 rfl (i := 10) (v := .slice (some ⟨vb, vo, none⟩) kn vc) (d := 28) rfl rfl (by kernel_rfl) (by kernel_rfl) (by kernel_rfl) (fun _ _ _ h => h) (Or.inl ⟨by rfl, ?_⟩) hHeld ?_
          · (intro W hW; (try dsimp only at hW); go_simp)
          try simp only [Act.put, List.setIfInBounds_toArray, List.set_cons_zero, List.set_cons_succ]
          refine take2 rfl (i := 11) (v := .int .i64 (a : Nat)) (d := 29) rfl rfl (by kernel_rfl) (by kernel_rfl) (by kernel_rfl) (fun _ _ _ h => h) (Or.inl ⟨by rfl, ?_⟩) hHeld ?_
          · (intro W hW; (try dsimp only at hW); go_simp)
          try simp only [Act.put, List.setIfInBounds_toArray, List.set_cons_zero, List.set_cons_succ]
          refine take2 rfl (i := 12) (v := .slice (some ⟨vb, O2, none⟩) r q2) (d := 30) rfl rfl (by kernel_rfl) (by kernel_rfl) (by kernel_rfl) (fun _ _ _ h => h) (Or.inl ⟨by rfl, ?_⟩) hHeld ?_
          · (intro W hW; (try dsimp only at hW); go_simp)
          try simp only [Act.put, List.setIfInBounds_toArray, List.set_cons_zero, List.set_cons_succ]
          refine take2 rfl (i := 13) (v := (.agg #[.bool true, .slice (some ⟨kb, O1, none⟩) r q1, .slice (some ⟨vb, O2, none⟩) r q2, .slice none 0 0])) (d := 31) rfl rfl (by kernel_rfl) (by kernel_rfl) (by kernel_rfl) (fun _ _ _ h => h) (Or.inl ⟨by rfl, ?_⟩) hHeld ?_
          · (intro W hW; (try dsimp only at hW); go_simp)
          try simp only [Act.put, List.setIfInBounds_toArray, List.set_cons_zero, List.set_cons_succ]
          refine wpAnyH_ready (rs := [14]) (by kernel_rfl) (by simp) ?_
          refine cons2 rfl rfl (fun K hK => ?_)
          go_simp
          (go_at_call 17; refine Calls.mono (KE.out _ (R2.out.bel)) ?_; rintro e w5 ⟨a5, c5, rfl, b5⟩; have R5 : Hid _ := R2.out.next b5)
          go_wp2_with fail
          refine hK.out _ _ (s4_of R5.out.box) (fun hX => ?_)
          clear hK K hHeld
          have hHeld := hX
          clear hX
          try simp only [Act.put, List.setIfInBounds_toArray, List.set_cons_zero, List.set_cons_succ]
          refine take2 rfl (i := 15) (v := .int .i64 (E : Nat)) (d := 33) rfl rfl (by kernel_rfl) (by kernel_rfl) (by kernel_rfl) (fun _ _ _ h => h) (Or.inl ⟨by rfl, ?_⟩) hHeld ?_
          · (intro W hW; (try dsimp only at hW); go_simp)
          try simp only [Act.put, List.setIfInBounds_toArray, List.set_cons_zero, List.set_cons_succ]
          refine take2 rfl (i := 16) (v := .bool false) (d := 34) rfl rfl (by kernel_rfl) (by kernel_rfl) (by kernel_rfl) (fun _ _ _ h => h) (Or.inl ⟨by rfl, ?_⟩) hHeld ?_
          · (intro W hW; (try dsimp only at hW); go_simp)
          try simp only [Act.put, List.setIfInBounds_toArray, List.set_cons_zero, List.set_cons_succ]
          refine take2 rfl (i := 17) (v := .bool false) (d := 35) rfl rfl (by kernel_rfl) (by kernel_rfl) (by kernel_rfl) (fun _ _ _ h => h) (Or.inl ⟨by rfl, ?_⟩) hHeld ?_
          · (intro W hW; (try dsimp only at hW); go_simp)
          try simp only [Act.put, List.setIfInBounds_toArray, List.set_cons_zero, List.set_cons_succ]
          refine wpAnyH_done (by kernel_rfl) ?_ _
          go_wp2
          go_meet
          exact ⟨rfl, R5.out⟩
        · have ca : ¬ (a : Int) < (N1 : Int) := by omega
          clear hb
          refine wp_region_held_drew (S := (fun W => W.cell? ⟨w.heap.size, 0, none⟩ = some (.bool true) ∧ W.cell? ⟨w.heap.size, 1, none⟩ = some (.slice (some ⟨kb, ko, none⟩) kn kc) ∧ W.cell? ⟨w.heap.size, 2, none⟩ = some (.slice (some ⟨vb, vo, none⟩) kn vc) ∧ W.cell? ⟨w.heap.size, 3, none⟩ = some (.slice ia im ic))) (by kernel_rfl) (s4_of (R1.out.next (Below.refl _ _).drew).box) (fun hHeld => ?_)
          have R2 : Hid _ := R1.out.next (Below.refl wr.heap.size wr).drew
          generalize wr.drew = wz at *
          refine take2 rfl (i := 0) (v := .int .i64 (a : Nat)) (d := 18) rfl rfl (by kernel_rfl) (by kernel_rfl) (by kernel_rfl) (fun _ _ _ h => h) (Or.inl ⟨by rfl, ?_⟩) hHeld ?_
          · (intro W hW; (try dsimp only at hW); go_simp)
          try simp only [Act.put, List.setIfInBounds_toArray, List.set_cons_zero, List.set_cons_succ]
          refine take2 rfl (i := 1) (v := .int .i64 (kn : Nat)) (d := 19) rfl rfl (by kernel_rfl) (by kernel_rfl) (by kernel_rfl) (fun _ _ _ h => h) (Or.inl ⟨by rfl, ?_⟩) hHeld ?_
          · (intro W hW; (try dsimp only at hW); go_simp)
          try simp only [Act.put, List.setIfInBounds_toArray, List.set_cons_zero, List.set_cons_succ]
          refine take2 rfl (i := 2) (v := .int .i64 (N1 : Nat)) (d := 20) rfl rfl (by kernel_rfl) (by kernel_rfl) (by kernel_rfl) (fun _ _ _ h => h) (Or.inl ⟨by rfl, ?_⟩) hHeld ?_
          · (intro W hW; (try dsimp only at hW); go_simp)
          try simp only [Act.put, List.setIfInBounds_toArray, List.set_cons_zero, List.set_cons_succ]
          refine take2 rfl (i := 3) (v := .bool false) (d := 21) rfl rfl (by kernel_rfl) (by kernel_rfl) (by kernel_rfl) (fun _ _ _ h => h) (Or.inl ⟨by rfl, ?_⟩) hHeld ?_
          · (intro W hW; (try dsimp only at hW); go_simp)
          try simp only [Act.put, List.setIfInBounds_toArray, List.set_cons_zero, List.set_cons_succ]
          refine take2 rfl (i := 4) (v := .bool false) (d := 22) rfl rfl (by kernel_rfl) (by kernel_rfl) (by kernel_rfl) (fun _ _ _ h => h) (Or.inl ⟨by rfl, ?_⟩) hHeld ?_
          · (intro W hW; (try dsimp only at hW); go_simp)
          try simp only [Act.put, List.setIfInBounds_toArray, List.set_cons_zero, List.set_cons_succ]
          refine take2 rfl (i := 5) (v := undef) (d := 23) rfl rfl (by kernel_rfl) (by kernel_rfl) (by kernel_rfl) (fun _ _ _ h => h) (Or.inr ⟨by rfl, rfl⟩) hHeld ?_
          try simp only [Act.put, List.setIfInBounds_toArray, List.set_cons_zero, List.set_cons_succ]
          refine take2 rfl (i := 6) (v := undef) (d := 24) rfl rfl (by kernel_rfl) (by kernel_rfl) (by kernel_rfl) (fun _ _ _ h => h) (Or.inr ⟨by rfl, rfl⟩) hHeld ?_
          try simp only [Act.put, List.setIfInBounds_toArray, List.set_cons_zero, List.set_cons_succ]
          refine take2 rfl (i := 7) (v := undef) (d := 25) rfl rfl (by kernel_rfl) (by kernel_rfl) (by kernel_rfl) (fun _ _ _ h => h) (Or.inr ⟨by rfl, rfl⟩) hHeld ?_
          try simp only [Act.put, List.setIfInBounds_toArray, List.set_cons_zero, List.set_cons_succ]
          refine take2 rfl (i := 8) (v := undef) (d := 26) rfl rfl (by kernel_rfl) (by kernel_rfl) (by kernel_rfl) (fun _ _ _ h => h) (Or.inr ⟨by rfl, rfl⟩) hHeld ?_
          try simp only [Act.put, List.setIfInBounds_toArray, List.set_cons_zero, List.set_cons_succ]
          refine take2 rfl (i := 9) (v := undef) (d := 27) rfl rfl (by kernel_rfl) (by kernel_rfl) (by kernel_rfl) (fun _ _ _ h => h) (Or.inr ⟨by rfl, rfl⟩) hHeld ?_
          try simp only [Act.put, List.setIfInBounds_toArray, List.set_cons_zero, List.set_cons_succ]
          refine take2 rfl (i := 10) (v := undef) (d := 28) rfl rfl (by kernel_rfl) (by kernel_rfl) (by kernel_rfl) (fun _ _ _ h => h) (Or.inr ⟨by rfl, rfl⟩) hHeld ?_
          try simp only [Act.put, List.setIfInBounds_toArray, List.set_cons_zero, List.set_cons_succ]
          refine take2 rfl (i := 11) (v := undef) (d := 29) rfl rfl (by kernel_rfl) (by kernel_rfl) (by kernel_rfl) (fun _ _ _ h => h) (Or.inr ⟨by rfl, rfl⟩) hHeld ?_
          try simp only [Act.put, List.setIfInBounds_toArray, List.set_cons_zero, List.set_cons_succ]
          refine take2 rfl (i := 12) (v := undef) (d := 30) rfl rfl (by kernel_rfl) (by kernel_rfl) (by kernel_rfl) (fun _ _ _ h => h) (Or.inr ⟨by rfl, rfl⟩) hHeld ?_
          try simp only [Act.put, List.setIfInBounds_toArray, List.set_cons_zero, List.set_cons_succ]
          refine take2 rfl (i := 13) (v := undef) (d := 31) rfl rfl (by kernel_rfl) (by kernel_rfl) (by kernel_rfl) (fun _ _ _ h => h) (Or.inr ⟨by rfl, rfl⟩) hHeld ?_
          try simp only [Act.put, List.setIfInBounds_toArray, List.set_cons_zero, List.set_cons_succ]
          refine take2 rfl (i := 14) (v := undef) (d := 32) rfl rfl (by kernel_rfl) (by kernel_rfl) (by kernel_rfl) (fun _ _ _ h => h) (Or.inr ⟨by rfl, rfl⟩) hHeld ?_
          try simp only [Act.put, List.setIfInBounds_toArray, List.set_cons_zero, List.set_cons_succ]
          refine take2 rfl (i := 15) (v := undef) (d := 33) rfl rfl (by kernel_rfl) (by kernel_rfl) (by kernel_rfl) (fun _ _ _ h => h) (Or.inr ⟨by rfl, rfl⟩) hHeld ?_
          try simp only [Act.put, List.setIfInBounds_toArray, List.set_cons_zero, List.set_cons_succ]
          refine take2 rfl (i := 16) (v := undef) (d := 34) rfl rfl (by kernel_rfl) (by kernel_rfl) (by kernel_rfl) (fun _ _ _ h => h) (Or.inr ⟨by rfl, rfl⟩) hHeld ?_
          try simp only [Act.put, List.setIfInBounds_toArray, List.set_cons_zero, List.set_cons_succ]
          refine take2 rfl (i := 17) (v := .bool false) (d := 35) rfl rfl (by kernel_rfl) (by kernel_rfl) (by kernel_rfl) (fun _ _ _ h => h) (Or.inl ⟨by rfl, ?_⟩) hHeld ?_
          · (intro W hW; (try dsimp only at hW); go_simp)
          try simp only [Act.put, List.setIfInBounds_toArray, List.set_cons_zero, List.set_cons_succ]
          refine wpAnyH_done (by kernel_rfl) ?_ _
          go_wp2
          go_meet
          exact ⟨rfl, R2.out⟩
      case rest =>
        obtain ⟨rfl, hC⟩ := hcut
        clear hT hb R1
        have D0 : Hid (dnT (cF L) a = mid L) := by show _ = _; unfold mid; rw [TP.out]
        obtain ⟨wq, hwq⟩ : ∃ wq, wq = wc := ⟨_, rfl⟩
        subst hwq
        go_wp2_with fail
        go_loopg [6] a (fun g hv wr => ∃ a : Nat, 1 ≤ a ∧ a < kn ∧ a = g ∧ hv = .int .i64 (a : Nat) ∧ Hid (dnT (cF L) a = mid L) ∧ Hid (R2z w (.bool true) (.slice (some ⟨kb, ko, none⟩) kn kc) (.slice (some ⟨vb, vo, none⟩) kn vc) (.slice ia im ic) wr))
        case atStart => exact ⟨a, ha1, ha2, rfl, rfl, D0.out, hC.out⟩
        case round =>
          clear hC D0 TP wa
          clear ha1 ha2
          obtain ⟨a, ha1, ha2, rfl, rfl, hT, R1⟩ := hrel
          have wa : IntKind.i64.wrap (a : Int) = (a : Int) := by rw [IntKind.wrap_i64]; omega
          cases hb : cF L a with
          | true =>
            have GO : Hid _ := dnT_step hb (by omega)
            have U1 := cut_upto Try.underlying23 strInfo kb ko kn kc a _ rfl (by omega)
            have U2 := cut_upto Try.underlying23 strInfo vb vo kn vc a _ rfl (by omega)
            have KE : Hid (∀ W, Below w.heap.size w W → Calls Try.prog 17 #[.agg #[.bool true, .slice (some ⟨kb, ko, none⟩) a kc, .slice (some ⟨vb, vo, none⟩) a vc, .slice none 0 0]] W fun e w' => ∃ a5 c5, e = .returned (.slice a5 (hd a + sumL (L.take a)) c5) ∧ Below W.heap.size W w') := fun W b => by
              have P : Pv W (.agg #[.bool true, .slice (some ⟨kb, ko, none⟩) a kc, .slice (some ⟨vb, vo, none⟩) a vc, .slice none 0 0]) ⟨true, ks.take a, vs.take a, []⟩ := by
                refine Pv.mk' ?_ ?_ (Sl.empty _) (fun k hk => by simp at hk)
                · rw [← sv_take]; exact (HH.out W b).1.take (by omega)
                · rw [← sv_take]; exact (HH.out W b).2.take (by omega)
              refine Calls.mono (kEncode_any _ _ W P (FU.out a)) ?_
              rintro e w' ⟨⟨v, rfl, o⟩, b'⟩
              obtain ⟨a5, c5, rfl, _, _, _⟩ := o.by
              refine ⟨a5, c5, ?_, b'⟩
              rw [encP_leaf_len, szs_take, ← HL.out.1, List.length_take, HL.out.2.1, Nat.min_eq_left (by omega)]
            have HE : Hid (cF L a = (decide (1 < a) && decide (900 < hd a + sumL (L.take a)))) := by show _ = _; unfold cF crB; rfl
            have EB : hd a + sumL (L.take a) ≤ 100000 := by
              have e1 := sumL_split L a
              have e2 := hd_le (n := a) (by omega)
              have e3 := LB.out
              omega
            generalize hd a + sumL (L.take a) = E at *
            rw [hb] at HE
            have HE2 : Hid (1 < a ∧ 900 < E) := by have q := HE.out.symm; simp at q; exact q
            have cE : (900 : Int) < (E : Int) := by have := HE2.out; omega
            have ca : (1 : Int) < (a : Int) := by have := HE2.out; omega
            have ca2 : 1 < a := HE2.out.1
            clear hb HE
            go_wp2_with fail
            refine wp_region_held_drew (S := (fun W => W.cell? ⟨w.heap.size, 0, none⟩ = some (.bool true) ∧ W.cell? ⟨w.heap.size, 1, none⟩ = some (.slice (some ⟨kb, ko, none⟩) kn kc) ∧ W.cell? ⟨w.heap.size, 2, none⟩ = some (.slice (some ⟨vb, vo, none⟩) kn vc) ∧ W.cell? ⟨w.heap.size, 3, none⟩ = some (.slice ia im ic))) (by kernel_rfl) (s4_of (R1.out.next (Below.refl _ _).drew).box) (fun hHeld => ?_)
            have R2 : Hid _ := R1.out.next (Below.refl wr.heap.size wr).drew
            generalize wr.drew = wz at *
            refine take2 rfl (i := 0) (v := .int .i64 (a : Nat)) (d := 38) rfl rfl (by kernel_rfl) (by kernel_rfl) (by kernel_rfl) (fun _ _ _ h => h) (Or.inl ⟨by rfl, ?_⟩) hHeld ?_
            · (intro W hW; (try dsimp only at hW); go_simp)
            try simp only [Act.put, List.setIfInBounds_toArray, List.set_cons_zero, List.set_cons_succ]
            refine take2 rfl (i := 1) (v := .bool true) (d := 39) rfl rfl (by kernel_rfl) (by kernel_rfl) (by kernel_rfl) (fun _ _ _ h => h) (Or.inl ⟨by rfl, ?_⟩) hHeld ?_
            · (intro W hW; (try dsimp only at hW); go_simp)
            try simp only [Act.put, List.setIfInBounds_toArray, List.set_cons_zero, List.set_cons_succ]
            refine take2 rfl (i := 2) (v := .bool true) (d := 40) rfl rfl (by kernel_rfl) (by kernel_rfl) (by kernel_rfl) (fun _ _ _ h => h) (Or.inl ⟨by rfl, ?_⟩) hHeld ?_
            · (intro W hW; (try dsimp only at hW); go_simp)
            try simp only [Act.put, List.setIfInBounds_toArray, List.set_cons_zero, List.set_cons_succ]
            refine take2 rfl (i := 3) (v := .pointer (some ⟨w.heap.size, 1, none⟩)) (d := 41) rfl rfl (by kernel_rfl) (by kernel_rfl) (by kernel_rfl) (fun _ _ _ h => h) (Or.inl ⟨by rfl, ?_⟩) hHeld ?_
            · (intro W hW; (try dsimp only at hW); go_simp)
            try simp only [Act.put, List.setIfInBounds_toArray, List.set_cons_zero, List.set_cons_succ]
            refine take2 rfl (i := 4) (v := .slice (some ⟨kb, ko, none⟩) kn kc) (d := 42) rfl rfl (by kernel_rfl) (by kernel_rfl) (by kernel_rfl) (fun _ _ _ h => h) (Or.inl ⟨by rfl, ?_⟩) hHeld ?_
            · (intro W hW; (try dsimp only at hW); go_simp)
            try simp only [Act.put, List.setIfInBounds_toArray, List.set_cons_zero, List.set_cons_succ]
            refine take2 rfl (i := 5) (v := .int .i64 (a : Nat)) (d := 43) rfl rfl (by kernel_rfl) (by kernel_rfl) (by kernel_rfl) (fun _ _ _ h => h) (Or.inl ⟨by rfl, ?_⟩) hHeld ?_
            · (intro W hW; (try dsimp only at hW); go_simp)
            try simp only [Act.put, List.setIfInBounds_toArray, List.set_cons_zero, List.set_cons_succ]
            refine take2 rfl (i := 6) (v := .slice (some ⟨kb, ko, none⟩) a kc) (d := 44) rfl rfl (by kernel_rfl) (by kernel_rfl) (by kernel_rfl) (fun _ _ _ h => h) (Or.inl ⟨by rfl, ?_⟩) hHeld ?_
            · (intro W hW; (try dsimp only at hW); go_simp)
            try simp only [Act.put, List.setIfInBounds_toArray, List.set_cons_zero, List.set_cons_succ]
            refine take2 rfl (i := 7) (v := .pointer (some ⟨w.heap.size, 2, none⟩)) (d := 45) rfl rfl (by kernel_rfl) (by kernel_rfl) (by kernel_rfl) (fun _ _ _ h => h) (Or.inl ⟨by rfl, ?_⟩) hHeld ?_
            · (intro W hW; (try dsimp only at hW); go_simp)
            try simp only [Act.put, List.setIfInBounds_toArray, List.set_cons_zero, List.set_cons_succ]
            refine take2 rfl (i := 8) (v := .slice (some ⟨vb, vo, none⟩) kn vc) (d := 46) rfl rfl (by kernel_rfl) (by kernel_rfl) (by kernel_rfl) (fun _ _ _ h => h) (Or.inl ⟨by rfl, ?_⟩) hHeld ?_
            · (intro W hW; (try dsimp only at hW); go_simp)
            try simp only [Act.put, List.setIfInBounds_toArray, List.set_cons_zero, List.set_cons_succ]
            refine take2 rfl (i := 9) (v := .int .i64 (a : Nat)) (d := 47) rfl rfl (by kernel_rfl) (by kernel_rfl) (by kernel_rfl) (fun _ _ _ h => h) (Or.inl ⟨by rfl, ?_⟩) hHeld ?_
            · (intro W hW; (try dsimp only at hW); go_simp)
            try simp only [Act.put, List.setIfInBounds_toArray, List.set_cons_zero, List.set_cons_succ]
            refine take2 rfl (i := 10) (v := .slice (some ⟨vb, vo, none⟩) a vc) (d := 48) rfl rfl (by kernel_rfl) (by kernel_rfl) (by kernel_rfl) (fun _ _ _ h => h) (Or.inl ⟨by rfl, ?_⟩) hHeld ?_
            · (intro W hW; (try dsimp only at hW); go_simp)
            try simp only [Act.put, List.setIfInBounds_toArray, List.set_cons_zero, List.set_cons_succ]
            refine take2 rfl (i := 11) (v := (.agg #[.bool true, .slice (some ⟨kb, ko, none⟩) a kc, .slice (some ⟨vb, vo, none⟩) a vc, .slice none 0 0])) (d := 49) rfl rfl (by kernel_rfl) (by kernel_rfl) (by kernel_rfl) (fun _ _ _ h => h) (Or.inl ⟨by rfl, ?_⟩) hHeld ?_
            · (intro W hW; (try dsimp only at hW); go_simp)
            try simp only [Act.put, List.setIfInBounds_toArray, List.set_cons_zero, List.set_cons_succ]
            refine wpAnyH_ready (rs := [12]) (by kernel_rfl) (by simp) ?_
            refine cons2 rfl rfl (fun K hK => ?_)
            go_simp
            (go_at_call 17; refine Calls.mono (KE.out _ (R2.out.bel)) ?_; rintro e w5 ⟨a5, c5, rfl, b5⟩; have R5 : Hid _ := R2.out.next b5)
            go_wp2_with fail
            refine hK.out _ _ (s4_of R5.out.box) (fun hX => ?_)
            clear hK K hHeld
            have hHeld := hX
            clear hX
            try simp only [Act.put, List.setIfInBounds_toArray, List.set_cons_zero, List.set_cons_succ]
            refine take2 rfl (i := 13) (v := .int .i64 (E : Nat)) (d := 51) rfl rfl (by kernel_rfl) (by kernel_rfl) (by kernel_rfl) (fun _ _ _ h => h) (Or.inl ⟨by rfl, ?_⟩) hHeld ?_
            · (intro W hW; (try dsimp only at hW); go_simp)
            try simp only [Act.put, List.setIfInBounds_toArray, List.set_cons_zero, List.set_cons_succ]
            refine take2 rfl (i := 14) (v := .bool true) (d := 52) rfl rfl (by kernel_rfl) (by kernel_rfl) (by kernel_rfl) (fun _ _ _ h => h) (Or.inl ⟨by rfl, ?_⟩) hHeld ?_
            · (intro W hW; (try dsimp only at hW); go_simp)
            try simp only [Act.put, List.setIfInBounds_toArray, List.set_cons_zero, List.set_cons_succ]
            refine take2 rfl (i := 15) (v := .bool true) (d := 53) rfl rfl (by kernel_rfl) (by kernel_rfl) (by kernel_rfl) (fun _ _ _ h => h) (Or.inl ⟨by rfl, ?_⟩) hHeld ?_
            · (intro W hW; (try dsimp only at hW); go_simp)
            try simp only [Act.put, List.setIfInBounds_toArray, List.set_cons_zero, List.set_cons_succ]
            refine wpAnyH_done (by kernel_rfl) ?_ _
            go_wp2
            go_roundg (a - 1)
            case measure => omega
            case rel => exact ⟨a - 1, by omega, by omega, rfl, by go_num, by rw [← GO.out]; exact hT.out, R5.out⟩
          | false =>
            have MD : Hid (mid L = a) := by show _ = _; rw [← hT.out]; exact dnT_stop hb
            go_upto_region 6 with fail
            go_cut [53] from 38 to 53 (fun s wx => s = .bool false ∧ Hid (R2z w (.bool true) (.slice (some ⟨kb, ko, none⟩) kn kc) (.slice (some ⟨vb, vo, none⟩) kn vc) (.slice ia im ic) wx))
            case first =>
              by_cases c : 1 < a
              · have ca : (1 : Int) < (a : Int) := by omega
                have U1 := cut_upto Try.underlying23 strInfo kb ko kn kc a _ rfl (by omega)
                have U2 := cut_upto Try.underlying23 strInfo vb vo kn vc a _ rfl (by omega)
                have KE : Hid (∀ W, Below w.heap.size w W → Calls Try.prog 17 #[.agg #[.bool true, .slice (some ⟨kb, ko, none⟩) a kc, .slice (some ⟨vb, vo, none⟩) a vc, .slice none 0 0]] W fun e w' => ∃ a5 c5, e = .returned (.slice a5 (hd a + sumL (L.take a)) c5) ∧ Below W.heap.size W w') := fun W b => by
                  have P : Pv W (.agg #[.bool true, .slice (some ⟨kb, ko, none⟩) a kc, .slice (some ⟨vb, vo, none⟩) a vc, .slice none 0 0]) ⟨true, ks.take a, vs.take a, []⟩ := by
                    refine Pv.mk' ?_ ?_ (Sl.empty _) (fun k hk => by simp at hk)
                    · rw [← sv_take]; exact (HH.out W b).1.take (by omega)
                    · rw [← sv_take]; exact (HH.out W b).2.take (by omega)
                  refine Calls.mono (kEncode_any _ _ W P (FU.out a)) ?_
                  rintro e w' ⟨⟨v, rfl, o⟩, b'⟩
                  obtain ⟨a5, c5, rfl, _, _, _⟩ := o.by
                  refine ⟨a5, c5, ?_, b'⟩
                  rw [encP_leaf_len, szs_take, ← HL.out.1, List.length_take, HL.out.2.1, Nat.min_eq_left (by omega)]
                have HE : Hid (cF L a = (decide (1 < a) && decide (900 < hd a + sumL (L.take a)))) := by show _ = _; unfold cF crB; rfl
                have EB : hd a + sumL (L.take a) ≤ 100000 := by
                  have e1 := sumL_split L a
                  have e2 := hd_le (n := a) (by omega)
                  have e3 := LB.out
                  omega
                generalize hd a + sumL (L.take a) = E at *
                rw [hb] at HE
                have HE2 : Hid (E ≤ 900) := by
                  have q := HE.out.symm
                  rw [decide_eq_true c, Bool.true_and] at q
                  have := of_decide_eq_false q
                  show _ ≤ _
                  omega
                have cE : ¬ (900 : Int) < (E : Int) := by have := HE2.out; omega
                clear hb HE
                refine wp_region_held_drew (S := (fun W => W.cell? ⟨w.heap.size, 0, none⟩ = some (.bool true) ∧ W.cell? ⟨w.heap.size, 1, none⟩ = some (.slice (some ⟨kb, ko, none⟩) kn kc) ∧ W.cell? ⟨w.heap.size, 2, none⟩ = some (.slice (some ⟨vb, vo, none⟩) kn vc) ∧ W.cell? ⟨w.heap.size, 3, none⟩ = some (.slice ia im ic))) (by kernel_rfl) (s4_of (R1.out.next (Below.refl _ _).drew).box) (fun hHeld => ?_)
                have R2 : Hid _ := R1.out.next (Below.refl wr.heap.size wr).drew
                generalize wr.drew = wz at *
                refine take2 rfl (i := 0) (v := .int .i64 (a : Nat)) (d := 38) rfl rfl (by kernel_rfl) (by kernel_rfl) (by kernel_rfl) (fun _ _ _ h => h) (Or.inl ⟨by rfl, ?_⟩) hHeld ?_
                · (intro W hW; (try dsimp only at hW); go_simp)
                try simp only [Act.put, List.setIfInBounds_toArray, List.set_cons_zero, List.set_cons_succ]
                refine take2 rfl (i := 1) (v := .bool true) (d := 39) rfl rfl (by kernel_rfl) (by kernel_rfl) (by kernel_rfl) (fun _ _ _ h => h) (Or.inl ⟨by rfl, ?_⟩) hHeld ?_
                · (intro W hW; (try dsimp only at hW); go_simp)
                try simp only [Act.put, List.setIfInBounds_toArray, List.set_cons_zero, List.set_cons_succ]
                refine take2 rfl (i := 2) (v := .bool true) (d := 40) rfl rfl (by kernel_rfl) (by kernel_rfl) (by kernel_rfl) (fun _ _ _ h => h) (Or.inl ⟨by rfl, ?_⟩) hHeld ?_
                · (intro W hW; (try dsimp only at hW); go_simp)
                try simp only [Act.put, List.setIfInBounds_toArray, List.set_cons_zero, List.set_cons_succ]
                refine take2 rfl (i := 3) (v := .pointer (some ⟨w.heap.size, 1, none⟩)) (d := 41) rfl rfl (by kernel_rfl) (by kernel_rfl) (by kernel_rfl) (fun _ _ _ h => h) (Or.inl ⟨by rfl, ?_⟩) hHeld ?_
                · (intro W hW; (try dsimp only at hW); go_simp)
                try simp only [Act.put, List.setIfInBounds_toArray, List.set_cons_zero, List.set_cons_succ]
                refine take2 rfl (i := 4) (v := .slice (some ⟨kb, ko, none⟩) kn kc) (d := 42) rfl rfl (by kernel_rfl) (by kernel_rfl) (by kernel_rfl) (fun _ _ _ h => h) (Or.inl ⟨by rfl, ?_⟩) hHeld ?_
                · (intro W hW; (try dsimp only at hW); go_simp)
                try simp only [Act.put, List.setIfInBounds_toArray, List.set_cons_zero, List.set_cons_succ]
                refine take2 rfl (i := 5) (v := .int .i64 (a : Nat)) (d := 43) rfl rfl (by kernel_rfl) (by kernel_rfl) (by kernel_rfl) (fun _ _ _ h => h) (Or.inl ⟨by rfl, ?_⟩) hHeld ?_
                · (intro W hW; (try dsimp only at hW); go_simp)
                try simp only [Act.put, List.setIfInBounds_toArray, List.set_cons_zero, List.set_cons_succ]
                refine take2 rfl (i := 6) (v := .slice (some ⟨kb, ko, none⟩) a kc) (d := 44) rfl rfl (by kernel_rfl) (by kernel_rfl) (by kernel_rfl) (fun _ _ _ h => h) (Or.inl ⟨by rfl, ?_⟩) hHeld ?_
                · (intro W hW; (try dsimp only at hW); go_simp)
                try simp only [Act.put, List.setIfInBounds_toArray, List.set_cons_zero, List.set_cons_succ]
                refine take2 rfl (i := 7) (v := .pointer (some ⟨w.heap.size, 2, none⟩)) (d := 45) rfl rfl (by kernel_rfl) (by kernel_rfl) (by kernel_rfl) (fun _ _ _ h => h) (Or.inl ⟨by rfl, ?_⟩) hHeld ?_
                · (intro W hW; (try dsimp only at hW); go_simp)
                try simp only [Act.put, List.setIfInBounds_toArray, List.set_cons_zero, List.set_cons_succ]
                refine take2 rfl (i := 8) (v := .slice (some ⟨vb, vo, none⟩) kn vc) (d := 46) rfl rfl (by kernel_rfl) (by kernel_rfl) (by kernel_rfl) (fun _ _ _ h => h) (Or.inl ⟨by rfl, ?_⟩) hHeld ?_
                · (intro W hW; (try dsimp only at hW); go_simp)
                try simp only [Act.put, List.setIfInBounds_toArray, List.set_cons_zero, List.set_cons_succ]
                refine take2 rfl (i := 9) (v := .int .i64 (a : Nat)) (d := 47) rfl rfl (by kernel_rfl) (by kernel_rfl) (by kernel_rfl) (fun _ _ _ h => h) (Or.inl ⟨by rfl, ?_⟩) hHeld ?_
                · (intro W hW; (try dsimp only at hW); go_simp)
                try simp only [Act.put, List.setIfInBounds_toArray, List.set_cons_zero, List.set_cons_succ]
                refine take2 rfl (i := 10) (v := .slice (some ⟨vb, vo, none⟩) a vc) (d := 48) rfl rfl (by kernel_rfl) (by kernel_rfl) (by kernel_rfl) (fun _ _ _ h => h) (Or.inl ⟨by rfl, ?_⟩) hHeld ?_
                · (intro W hW; (try dsimp only at hW); go_simp)
                try simp only [Act.put, List.setIfInBounds_toArray, List.set_cons_zero, List.set_cons_succ]
                refine take2 rfl (i := 11) (v := (.agg #[.bool true, .slice (some ⟨kb, ko, none⟩) a kc, .slice (some ⟨vb, vo, none⟩) a vc, .slice none 0 0])) (d := 49) rfl rfl (by kernel_rfl) (by kernel_rfl) (by kernel_rfl) (fun _ _ _ h => h) (Or.inl ⟨by rfl, ?_⟩) hHeld ?_
                · (intro W hW; (try dsimp only at hW); go_simp)
                try simp only [Act.put, List.setIfInBounds_toArray, List.set_cons_zero, List.set_cons_succ]
                refine wpAnyH_ready (rs := [12]) (by kernel_rfl) (by simp) ?_
                refine cons2 rfl rfl (fun K hK => ?_)
                go_simp
                (go_at_call 17; refine Calls.mono (KE.out _ (R2.out.bel)) ?_; rintro e w5 ⟨a5, c5, rfl, b5⟩; have R5 : Hid _ := R2.out.next b5)
                go_wp2_with fail
                refine hK.out _ _ (s4_of R5.out.box) (fun hX => ?_)
                clear hK K hHeld
                have hHeld := hX
                clear hX
                try simp only [Act.put, List.setIfInBounds_toArray, List.set_cons_zero, List.set_cons_succ]
                refine take2 rfl (i := 13) (v := .int .i64 (E : Nat)) (d := 51) rfl rfl (by kernel_rfl) (by kernel_rfl) (by kernel_rfl) (fun _ _ _ h => h) (Or.inl ⟨by rfl, ?_⟩) hHeld ?_
                · (intro W hW; (try dsimp only at hW); go_simp)
                try simp only [Act.put, List.setIfInBounds_toArray, List.set_cons_zero, List.set_cons_succ]
                refine take2 rfl (i := 14) (v := .bool false) (d := 52) rfl rfl (by kernel_rfl) (by kernel_rfl) (by kernel_rfl) (fun _ _ _ h => h) (Or.inl ⟨by rfl, ?_⟩) hHeld ?_
                · (intro W hW; (try dsimp only at hW); go_simp)
                try simp only [Act.put, List.setIfInBounds_toArray, List.set_cons_zero, List.set_cons_succ]
                refine take2 rfl (i := 15) (v := .bool false) (d := 53) rfl rfl (by kernel_rfl) (by kernel_rfl) (by kernel_rfl) (fun _ _ _ h => h) (Or.inl ⟨by rfl, ?_⟩) hHeld ?_
                · (intro W hW; (try dsimp only at hW); go_simp)
                try simp only [Act.put, List.setIfInBounds_toArray, List.set_cons_zero, List.set_cons_succ]
                refine wpAnyH_done (by kernel_rfl) ?_ _
                go_wp2
                go_meet
                exact ⟨rfl, R5.out⟩
              · have ca : ¬ (1 : Int) < (a : Int) := by omega
                clear hb
                refine wp_region_held_drew (S := (fun W => W.cell? ⟨w.heap.size, 0, none⟩ = some (.bool true) ∧ W.cell? ⟨w.heap.size, 1, none⟩ = some (.slice (some ⟨kb, ko, none⟩) kn kc) ∧ W.cell? ⟨w.heap.size, 2, none⟩ = some (.slice (some ⟨vb, vo, none⟩) kn vc) ∧ W.cell? ⟨w.heap.size, 3, none⟩ = some (.slice ia im ic))) (by kernel_rfl) (s4_of (R1.out.next (Below.refl _ _).drew).box) (fun hHeld => ?_)
                have R2 : Hid _ := R1.out.next (Below.refl wr.heap.size wr).drew
                generalize wr.drew = wz at *
                refine take2 rfl (i := 0) (v := .int .i64 (a : Nat)) (d := 38) rfl rfl (by kernel_rfl) (by kernel_rfl) (by kernel_rfl) (fun _ _ _ h => h) (Or.inl ⟨by rfl, ?_⟩) hHeld ?_
                · (intro W hW; (try dsimp only at hW); go_simp)
                try simp only [Act.put, List.setIfInBounds_toArray, List.set_cons_zero, List.set_cons_succ]
                refine take2 rfl (i := 1) (v := .bool false) (d := 39) rfl rfl (by kernel_rfl) (by kernel_rfl) (by kernel_rfl) (fun _ _ _ h => h) (Or.inl ⟨by rfl, ?_⟩) hHeld ?_
                · (intro W hW; (try dsimp only at hW); go_simp)
                try simp only [Act.put, List.setIfInBounds_toArray, List.set_cons_zero, List.set_cons_succ]
                refine take2 rfl (i := 2) (v := .bool false) (d := 40) rfl rfl (by kernel_rfl) (by kernel_rfl) (by kernel_rfl) (fun _ _ _ h => h) (Or.inl ⟨by rfl, ?_⟩) hHeld ?_
                · (intro W hW; (try dsimp only at hW); go_simp)
                try simp only [Act.put, List.setIfInBounds_toArray, List.set_cons_zero, List.set_cons_succ]
                refine take2 rfl (i := 3) (v := undef) (d := 41) rfl rfl (by kernel_rfl) (by kernel_rfl) (by kernel_rfl) (fun _ _ _ h => h) (Or.inr ⟨by rfl, rfl⟩) hHeld ?_
                try simp only [Act.put, List.setIfInBounds_toArray, List.set_cons_zero, List.set_cons_succ]
                refine take2 rfl (i := 4) (v := undef) (d := 42) rfl rfl (by kernel_rfl) (by kernel_rfl) (by kernel_rfl) (fun _ _ _ h => h) (Or.inr ⟨by rfl, rfl⟩) hHeld ?_
                try simp only [Act.put, List.setIfInBounds_toArray, List.set_cons_zero, List.set_cons_succ]
                refine take2 rfl (i := 5) (v := undef) (d := 43) rfl rfl (by kernel_rfl) (by kernel_rfl) (by kernel_rfl) (fun _ _ _ h => h) (Or.inr ⟨by rfl, rfl⟩) hHeld ?_
                try simp only [Act.put, List.setIfInBounds_toArray, List.set_cons_zero, List.set_cons_succ]
                refine take2 rfl (i := 6) (v := undef) (d := 44) rfl rfl (by kernel_rfl) (by kernel_rfl) (by kernel_rfl) (fun _ _ _ h => h) (Or.inr ⟨by rfl, rfl⟩) hHeld ?_
                try simp only [Act.put, List.setIfInBounds_toArray, List.set_cons_zero, List.set_cons_succ]
                refine take2 rfl (i := 7) (v := undef) (d := 45) rfl rfl (by kernel_rfl) (by kernel_rfl) (by kernel_rfl) (fun _ _ _ h => h) (Or.inr ⟨by rfl, rfl⟩) hHeld ?_
                try simp only [Act.put, List.setIfInBounds_toArray, List.set_cons_zero, List.set_cons_succ]
                refine take2 rfl (i := 8) (v := undef) (d := 46) rfl rfl (by kernel_rfl) (by kernel_rfl) (by kernel_rfl) (fun _ _ _ h => h) (Or.inr ⟨by rfl, rfl⟩) hHeld ?_
                try simp only [Act.put, List.setIfInBounds_toArray, List.set_cons_zero, List.set_cons_succ]
                refine take2 rfl (i := 9) (v := undef) (d := 47) rfl rfl (by kernel_rfl) (by kernel_rfl) (by kernel_rfl) (fun _ _ _ h => h) (Or.inr ⟨by rfl, rfl⟩) hHeld ?_
                try simp only [Act.put, List.setIfInBounds_toArray, List.set_cons_zero, List.set_cons_succ]
                refine take2 rfl (i := 10) (v := undef) (d := 48) rfl rfl (by kernel_rfl) (by kernel_rfl) (by kernel_rfl) (fun _ _ _ h => h) (Or.inr ⟨by rfl, rfl⟩) hHeld ?_
                try simp only [Act.put, List.setIfInBounds_toArray, List.set_cons_zero, List.set_cons_succ]
                refine take2 rfl (i := 11) (v := undef) (d := 49) rfl rfl (by kernel_rfl) (by kernel_rfl) (by kernel_rfl) (fun _ _ _ h => h) (Or.inr ⟨by rfl, rfl⟩) hHeld ?_
                try simp only [Act.put, List.setIfInBounds_toArray, List.set_cons_zero, List.set_cons_succ]
                refine take2 rfl (i := 12) (v := undef) (d := 50) rfl rfl (by kernel_rfl) (by kernel_rfl) (by kernel_rfl) (fun _ _ _ h => h) (Or.inr ⟨by rfl, rfl⟩) hHeld ?_
                try simp only [Act.put, List.setIfInBounds_toArray, List.set_cons_zero, List.set_cons_succ]
                refine take2 rfl (i := 13) (v := undef) (d := 51) rfl rfl (by kernel_rfl) (by kernel_rfl) (by kernel_rfl) (fun _ _ _ h => h) (Or.inr ⟨by rfl, rfl⟩) hHeld ?_
                try simp only [Act.put, List.setIfInBounds_toArray, List.set_cons_zero, List.set_cons_succ]
                refine take2 rfl (i := 14) (v := undef) (d := 52) rfl rfl (by kernel_rfl) (by kernel_rfl) (by kernel_rfl) (fun _ _ _ h => h) (Or.inr ⟨by rfl, rfl⟩) hHeld ?_
                try simp only [Act.put, List.setIfInBounds_toArray, List.set_cons_zero, List.set_cons_succ]
                refine take2 rfl (i := 15) (v := .bool false) (d := 53) rfl rfl (by kernel_rfl) (by kernel_rfl) (by kernel_rfl) (fun _ _ _ h => h) (Or.inl ⟨by rfl, ?_⟩) hHeld ?_
                · (intro W hW; (try dsimp only at hW); go_simp)
                try simp only [Act.put, List.setIfInBounds_toArray, List.set_cons_zero, List.set_cons_succ]
                refine wpAnyH_done (by kernel_rfl) ?_ _
                go_wp2
                go_meet
                exact ⟨rfl, R2.out⟩
            case rest =>
              obtain ⟨rfl, hC⟩ := hcut
              clear hT hb R1
              obtain ⟨wp, hwp⟩ : ∃ wp, wp = wc := ⟨_, rfl⟩
              subst hwp
              have R1 : Hid _ := hC.out
              clear hC
              have U1 := cut_upto Try.underlying23 strInfo kb ko kn kc a _ rfl (by omega)
              have U2 := cut_upto Try.underlying23 strInfo vb vo kn vc a _ rfl (by omega)
              obtain ⟨O1, U3, ho1⟩ := cut_from Try.underlying23 strInfo kb ko kn kc a _ rfl (by omega) fk
              obtain ⟨O2, U4, ho2⟩ := cut_from Try.underlying23 strInfo vb vo kn vc a _ rfl (by omega) fv
              have HA : Hid (∀ W, Below w.heap.size w W → Pv W (.agg #[.bool true, .slice (some ⟨kb, ko, none⟩) a kc, .slice (some ⟨vb, vo, none⟩) a vc, .slice none 0 0]) ⟨true, ks.take a, vs.take a, []⟩ ∧ Pv W (.agg #[.bool true, .slice (some ⟨kb, O1, none⟩) (kn - a) (kc - a), .slice (some ⟨vb, O2, none⟩) (kn - a) (vc - a), .slice none 0 0]) ⟨true, ks.drop a, vs.drop a, []⟩) := fun W b => by
                refine ⟨Pv.mk' ?_ ?_ (Sl.empty _) (fun k hk => by simp at hk), Pv.mk' ?_ ?_ (Sl.empty _) (fun k hk => by simp at hk)⟩
                · rw [← sv_take]; exact (HH.out W b).1.take (by omega)
                · rw [← sv_take]; exact (HH.out W b).2.take (by omega)
                · rw [← sv_drop]; exact (HH.out W b).1.drop (by omega) ho1
                · rw [← sv_drop]; exact (HH.out W b).2.drop (by omega) ho2
              have KC : Hid (∀ W, Below w.heap.size w W → W.cell? ⟨kb, ko + a, none⟩ = some (.string (kAt ks a))) := fun W b => (HH.out W b).1.str (by omega)
              have ca : (a : Int) < (kn : Int) := by omega
              generalize kn - a = r at *
              generalize kc - a = q1 at *
              generalize vc - a = q2 at *
              clear ho1 ho2
              go_upto_region 8 with fail
              have RZ : Hid _ := R1.out.next (Below.refl wp.heap.size wp).drew
              have PX : Hid _ := (HA.out _ RZ.out.bel).1
              have PY : Hid _ := (HA.out _ RZ.out.bel).2
              have G1 : Hid _ := RZ.out.ra.put (q := ⟨true, ks.take a, vs.take a, []⟩) PX.out
              have RZ1 : Hid _ := RZ.out.rb.far RZ.out.ra G1.out.2 (by omega)
              have BX1 : Hid _ := RZ.out.box.grown G1.out.2 (fun e => by injection e with e; omega)
              have BL1 : Hid _ := RZ.out.bel.grown G1.out.2 RZ.out.bel.size (fun k hk => by cases hk; omega)
              have X : Hid _ := RZ.out.fin (q := ⟨true, ks.take a, vs.take a, []⟩) (q' := ⟨true, ks.drop a, vs.drop a, []⟩) PX.out PY.out
              have SX : Hid (∀ W, B4 W w.heap.size (.bool true) (.slice (some ⟨kb, ko, none⟩) kn kc) (.slice (some ⟨vb, vo, none⟩) kn vc) (.slice ia im ic) → Below w.heap.size w W → W.cell? ⟨w.heap.size, 0, none⟩ = some (.bool true) ∧ W.cell? ⟨w.heap.size, 1, none⟩ = some (.slice (some ⟨kb, ko, none⟩) kn kc) ∧ W.cell? ⟨w.heap.size, 2, none⟩ = some (.slice (some ⟨vb, vo, none⟩) kn vc) ∧ W.cell? ⟨w.heap.size, 3, none⟩ = some (.slice ia im ic) ∧ W.cell? ⟨kb, ko + a, none⟩ = some (.string (kAt ks a))) := fun W q b => ⟨q.a0, q.a1, q.a2, q.a3, KC.out W b⟩
              have S50 := SX.out _ RZ.out.box RZ.out.bel
              have SA1 : Hid _ := SX.out _ BX1.out BL1.out
              have SA2 : Hid _ := SX.out _ X.out.box X.out.bel
              clear BX1 BL1 G1 SX
              unfold st4 at X SA1 SA2 RZ1
              simp only at X SA1 SA2 RZ1
              refine wp_region_held_drew (S := (fun W => W.cell? ⟨w.heap.size, 0, none⟩ = some (.bool true) ∧ W.cell? ⟨w.heap.size, 1, none⟩ = some (.slice (some ⟨kb, ko, none⟩) kn kc) ∧ W.cell? ⟨w.heap.size, 2, none⟩ = some (.slice (some ⟨vb, vo, none⟩) kn vc) ∧ W.cell? ⟨w.heap.size, 3, none⟩ = some (.slice ia im ic) ∧ W.cell? ⟨kb, ko + a, none⟩ = some (.string (kAt ks a)))) (by kernel_rfl) S50 (fun hHeld => ?_)
              generalize wp.drew = wz at *
              refine take2 rfl (i := 0) (v := .pointer (some ⟨w.heap.size, 1, none⟩)) (d := 56) rfl rfl (by kernel_rfl) (by kernel_rfl) (by kernel_rfl) (fun _ _ _ h => h) (Or.inl ⟨by rfl, ?_⟩) hHeld ?_
              · (intro W hW; (try dsimp only at hW); go_simp)
              try simp only [Act.put, List.setIfInBounds_toArray, List.set_cons_zero, List.set_cons_succ]
              refine take2 rfl (i := 1) (v := .slice (some ⟨kb, ko, none⟩) kn kc) (d := 57) rfl rfl (by kernel_rfl) (by kernel_rfl) (by kernel_rfl) (fun _ _ _ h => h) (Or.inl ⟨by rfl, ?_⟩) hHeld ?_
              · (intro W hW; (try dsimp only at hW); go_simp)
              try simp only [Act.put, List.setIfInBounds_toArray, List.set_cons_zero, List.set_cons_succ]
              refine take2 rfl (i := 2) (v := .int .i64 (a : Nat)) (d := 58) rfl rfl (by kernel_rfl) (by kernel_rfl) (by kernel_rfl) (fun _ _ _ h => h) (Or.inl ⟨by rfl, ?_⟩) hHeld ?_
              · (intro W hW; (try dsimp only at hW); go_simp)
              try simp only [Act.put, List.setIfInBounds_toArray, List.set_cons_zero, List.set_cons_succ]
              refine take2 rfl (i := 3) (v := .slice (some ⟨kb, ko, none⟩) a kc) (d := 59) rfl rfl (by kernel_rfl) (by kernel_rfl) (by kernel_rfl) (fun _ _ _ h => h) (Or.inl ⟨by rfl, ?_⟩) hHeld ?_
              · (intro W hW; (try dsimp only at hW); go_simp)
              try simp only [Act.put, List.setIfInBounds_toArray, List.set_cons_zero, List.set_cons_succ]
              refine take2 rfl (i := 4) (v := .pointer (some ⟨w.heap.size, 2, none⟩)) (d := 60) rfl rfl (by kernel_rfl) (by kernel_rfl) (by kernel_rfl) (fun _ _ _ h => h) (Or.inl ⟨by rfl, ?_⟩) hHeld ?_
              · (intro W hW; (try dsimp only at hW); go_simp)
              try simp only [Act.put, List.setIfInBounds_toArray, List.set_cons_zero, List.set_cons_succ]
              refine take2 rfl (i := 5) (v := .slice (some ⟨vb, vo, none⟩) kn vc) (d := 61) rfl rfl (by kernel_rfl) (by kernel_rfl) (by kernel_rfl) (fun _ _ _ h => h) (Or.inl ⟨by rfl, ?_⟩) hHeld ?_
              · (intro W hW; (try dsimp only at hW); go_simp)
              try simp only [Act.put, List.setIfInBounds_toArray, List.set_cons_zero, List.set_cons_succ]
              refine take2 rfl (i := 6) (v := .int .i64 (a : Nat)) (d := 62) rfl rfl (by kernel_rfl) (by kernel_rfl) (by kernel_rfl) (fun _ _ _ h => h) (Or.inl ⟨by rfl, ?_⟩) hHeld ?_
              · (intro W hW; (try dsimp only at hW); go_simp)
              try simp only [Act.put, List.setIfInBounds_toArray, List.set_cons_zero, List.set_cons_succ]
              refine take2 rfl (i := 7) (v := .slice (some ⟨vb, vo, none⟩) a vc) (d := 63) rfl rfl (by kernel_rfl) (by kernel_rfl) (by kernel_rfl) (fun _ _ _ h => h) (Or.inl ⟨by rfl, ?_⟩) hHeld ?_
              · (intro W hW; (try dsimp only at hW); go_simp)
              try simp only [Act.put, List.setIfInBounds_toArray, List.set_cons_zero, List.set_cons_succ]
              refine take2 rfl (i := 8) (v := (.agg #[.bool true, .slice (some ⟨kb, ko, none⟩) a kc, .slice (some ⟨vb, vo, none⟩) a vc, .slice none 0 0])) (d := 64) rfl rfl (by kernel_rfl) (by kernel_rfl) (by kernel_rfl) (fun _ _ _ h => h) (Or.inl ⟨by rfl, ?_⟩) hHeld ?_
              · (intro W hW; (try dsimp only at hW); go_simp)
              try simp only [Act.put, List.setIfInBounds_toArray, List.set_cons_zero, List.set_cons_succ]
              refine take2 rfl (i := 9) (v := .pointer (some ⟨w.heap.size, 1, none⟩)) (d := 65) rfl rfl (by kernel_rfl) (by kernel_rfl) (by kernel_rfl) (fun _ _ _ h => h) (Or.inl ⟨by rfl, ?_⟩) hHeld ?_
              · (intro W hW; (try dsimp only at hW); go_simp)
              try simp only [Act.put, List.setIfInBounds_toArray, List.set_cons_zero, List.set_cons_succ]
              refine take2 rfl (i := 10) (v := .slice (some ⟨kb, ko, none⟩) kn kc) (d := 66) rfl rfl (by kernel_rfl) (by kernel_rfl) (by kernel_rfl) (fun _ _ _ h => h) (Or.inl ⟨by rfl, ?_⟩) hHeld ?_
              · (intro W hW; (try dsimp only at hW); go_simp)
              try simp only [Act.put, List.setIfInBounds_toArray, List.set_cons_zero, List.set_cons_succ]
              refine take2 rfl (i := 11) (v := .int .i64 (a : Nat)) (d := 67) rfl rfl (by kernel_rfl) (by kernel_rfl) (by kernel_rfl) (fun _ _ _ h => h) (Or.inl ⟨by rfl, ?_⟩) hHeld ?_
              · (intro W hW; (try dsimp only at hW); go_simp)
              try simp only [Act.put, List.setIfInBounds_toArray, List.set_cons_zero, List.set_cons_succ]
              refine take2 rfl (i := 12) (v := .pointer (some ⟨kb, ko + a, none⟩)) (d := 68) rfl rfl (by kernel_rfl) (by kernel_rfl) (by kernel_rfl) (fun _ _ _ h => h) (Or.inl ⟨by rfl, ?_⟩) hHeld ?_
              · (intro W hW; (try dsimp only at hW); go_simp)
              try simp only [Act.put, List.setIfInBounds_toArray, List.set_cons_zero, List.set_cons_succ]
              refine take2 rfl (i := 13) (v := .string (kAt ks a)) (d := 69) rfl rfl (by kernel_rfl) (by kernel_rfl) (by kernel_rfl) (fun _ _ _ h => h) (Or.inl ⟨by rfl, ?_⟩) hHeld ?_
              · (intro W hW; (try dsimp only at hW); go_simp)
              try simp only [Act.put, List.setIfInBounds_toArray, List.set_cons_zero, List.set_cons_succ]
              refine take2 rfl (i := 14) (v := .pointer (some ⟨w.heap.size, 1, none⟩)) (d := 70) rfl rfl (by kernel_rfl) (by kernel_rfl) (by kernel_rfl) (fun _ _ _ h => h) (Or.inl ⟨by rfl, ?_⟩) hHeld ?_
              · (intro W hW; (try dsimp only at hW); go_simp)
              try simp only [Act.put, List.setIfInBounds_toArray, List.set_cons_zero, List.set_cons_succ]
              refine take2 rfl (i := 15) (v := .slice (some ⟨kb, ko, none⟩) kn kc) (d := 71) rfl rfl (by kernel_rfl) (by kernel_rfl) (by kernel_rfl) (fun _ _ _ h => h) (Or.inl ⟨by rfl, ?_⟩) hHeld ?_
              · (intro W hW; (try dsimp only at hW); go_simp)
              try simp only [Act.put, List.setIfInBounds_toArray, List.set_cons_zero, List.set_cons_succ]
              refine take2 rfl (i := 16) (v := .int .i64 (a : Nat)) (d := 72) rfl rfl (by kernel_rfl) (by kernel_rfl) (by kernel_rfl) (fun _ _ _ h => h) (Or.inl ⟨by rfl, ?_⟩) hHeld ?_
              · (intro W hW; (try dsimp only at hW); go_simp)
              try simp only [Act.put, List.setIfInBounds_toArray, List.set_cons_zero, List.set_cons_succ]
              refine take2 rfl (i := 17) (v := .slice (some ⟨kb, O1, none⟩) r q1) (d := 73) rfl rfl (by kernel_rfl) (by kernel_rfl) (by kernel_rfl) (fun _ _ _ h => h) (Or.inl ⟨by rfl, ?_⟩) hHeld ?_
              · (intro W hW; (try dsimp only at hW); go_simp)
              try simp only [Act.put, List.setIfInBounds_toArray, List.set_cons_zero, List.set_cons_succ]
              refine take2 rfl (i := 18) (v := .pointer (some ⟨w.heap.size, 2, none⟩)) (d := 74) rfl rfl (by kernel_rfl) (by kernel_rfl) (by kernel_rfl) (fun _ _ _ h => h) (Or.inl ⟨by rfl, ?_⟩) hHeld ?_
              · (intro W hW; (try dsimp only at hW); go_simp)
              try simp only [Act.put, List.setIfInBounds_toArray, List.set_cons_zero, List.set_cons_succ]
              refine take2 rfl (i := 19) (v := .slice (some ⟨vb, vo, none⟩) kn vc) (d := 75) rfl rfl (by kernel_rfl) (by kernel_rfl) (by kernel_rfl) (fun _ _ _ h => h) (Or.inl ⟨by rfl, ?_⟩) hHeld ?_
              · (intro W hW; (try dsimp only at hW); go_simp)
              try simp only [Act.put, List.setIfInBounds_toArray, List.set_cons_zero, List.set_cons_succ]
              refine take2 rfl (i := 20) (v := .int .i64 (a : Nat)) (d := 76) rfl rfl (by kernel_rfl) (by kernel_rfl) (by kernel_rfl) (fun _ _ _ h => h) (Or.inl ⟨by rfl, ?_⟩) hHeld ?_
              · (intro W hW; (try dsimp only at hW); go_simp)
              try simp only [Act.put, List.setIfInBounds_toArray, List.set_cons_zero, List.set_cons_succ]
              refine take2 rfl (i := 21) (v := .slice (some ⟨vb, O2, none⟩) r q2) (d := 77) rfl rfl (by kernel_rfl) (by kernel_rfl) (by kernel_rfl) (fun _ _ _ h => h) (Or.inl ⟨by rfl, ?_⟩) hHeld ?_
              · (intro W hW; (try dsimp only at hW); go_simp)
              try simp only [Act.put, List.setIfInBounds_toArray, List.set_cons_zero, List.set_cons_succ]
              refine take2 rfl (i := 22) (v := (.agg #[.bool true, .slice (some ⟨kb, O1, none⟩) r q1, .slice (some ⟨vb, O2, none⟩) r q2, .slice none 0 0])) (d := 78) rfl rfl (by kernel_rfl) (by kernel_rfl) (by kernel_rfl) (fun _ _ _ h => h) (Or.inl ⟨by rfl, ?_⟩) hHeld ?_
              · (intro W hW; (try dsimp only at hW); go_simp)
              try simp only [Act.put, List.setIfInBounds_toArray, List.set_cons_zero, List.set_cons_succ]
              obtain ⟨r0, r1', r2', r3'⟩ := RZ.out.ra.b4
              simp only [zeroP] at r0
              have rz := RZ.out.ra.fz
              refine wpAnyH_ready (rs := [23]) (by kernel_rfl) (by simp) ?_
              refine cons2 rfl rfl (fun K9 hK => ?_)
              go_simp
              refine hK.out _ _ SA1.out (fun hX => ?_)
              clear hK K9 hHeld r0 r1' r2' r3' rz
              have hHeld := hX
              clear hX
              try simp only [Act.put, List.setIfInBounds_toArray, List.set_cons_zero, List.set_cons_succ]
              refine take2 rfl (i := 24) (v := .string (kAt ks a)) (d := 3) rfl rfl (by kernel_rfl) (by kernel_rfl) (by kernel_rfl) (fun _ _ _ h => h) (Or.inl ⟨by rfl, ?_⟩) hHeld ?_
              · (intro W hW; (try dsimp only at hW); go_simp)
              try simp only [Act.put, List.setIfInBounds_toArray, List.set_cons_zero, List.set_cons_succ]
              obtain ⟨r0, r1', r2', r3'⟩ := RZ1.out.b4
              simp only [zeroP] at r0
              have rz := RZ1.out.fz
              refine wpAnyH_ready (rs := [25]) (by kernel_rfl) (by simp) ?_
              refine cons2 rfl rfl (fun K9 hK => ?_)
              go_simp
              refine hK.out _ _ SA2.out (fun hX => ?_)
              clear hK K9 hHeld r0 r1' r2' r3' rz
              try simp only [Act.put, List.setIfInBounds_toArray, List.set_cons_zero, List.set_cons_succ]
              refine wpAnyH_done (by kernel_rfl) ?_ _
              generalize ((((((((wz.setCell ⟨w.heap.size + 1, 0, none⟩ (.bool true)).setCell ⟨w.heap.size + 1, 1, none⟩ (.slice (some ⟨kb, ko, none⟩) a kc)).setCell ⟨w.heap.size + 1, 2, none⟩ (.slice (some ⟨vb, vo, none⟩) a vc)).setCell ⟨w.heap.size + 1, 3, none⟩ (.slice none 0 0)).setCell ⟨w.heap.size + 1 + 1, 0, none⟩ (.bool true)).setCell ⟨w.heap.size + 1 + 1, 1, none⟩ (.slice (some ⟨kb, O1, none⟩) r q1)).setCell ⟨w.heap.size + 1 + 1, 2, none⟩ (.slice (some ⟨vb, O2, none⟩) r q2)).setCell ⟨w.heap.size + 1 + 1, 3, none⟩ (.slice none 0 0)) = W8 at *
              have Y1 : Hid _ := X.out.p1
              have Y2 : Hid _ := X.out.p2
              have BL : Hid _ := X.out.bel
              obtain ⟨t0, t1, t2, t3⟩ := X.out.ra
              obtain ⟨t4, t5, t6, t7⟩ := X.out.rb
              go_wp2
              rw [MD.out]
              exact bodyPost_ret (v := .tuple #[.agg #[.bool true, .slice (some ⟨kb, ko, none⟩) a kc, .slice (some ⟨vb, vo, none⟩) a vc, .slice none 0 0], .string (kAt ks a), .agg #[.bool true, .slice (some ⟨kb, O1, none⟩) r q1, .slice (some ⟨vb, O2, none⟩) r q2, .slice none 0 0]]) (by simp [results, Try.results21, go_sem, t0, t1, t2, t3, t4, t5, t6, t7]) rfl ⟨_, _, rfl, Y1.out, Y2.out, BL.out⟩

end Go.Proofs.Ytfedcghkohfhlaa
