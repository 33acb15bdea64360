/- The reference's DropLeaf and PutLeaf. -/
import Derived.Test.YtfedcghkohfhlaaZm
import Derived.Test.YtfedcghkohfhlaaU2
namespace Go.Proofs.Ytfedcghkohfhlaa
open Go.RowKit
set_option linter.unusedVariables false
set_option linter.unusedSimpArgs false

set_option maxRecDepth 100000 in
set_option maxHeartbeats 4000000 in
theorem kDropLeaf_any (v : Value) (p : Pg) (key : ByteArray) (w : World) (h : Pv w v p) (f : Bd p) (R : Rise p.keys) (hl : p.leaf = true) (he : p.vals.length = p.keys.length) (hk : p.kids = []) :
    Calls Try.prog 27 #[v, .string key] w fun e w' => NewP w w' e (dropP p key) := by
  have HV : Hid (∀ W, Below w.heap.size w W → Pv W v p) := fun W b => h.below b
  obtain ⟨ka, kn, kc, va, vn, vc, ia, im, ic, rfl, h1, h2, h3⟩ := h.ex
  obtain ⟨lf, ks, vs, is⟩ := p
  simp only at h1 h2 h3 R hl he hk HV
  subst hl hk
  have l1 := h1.slen
  have l2 := h2.slen
  obtain rfl : kn = vn := by omega
  have b1 := f.keys
  simp only at b1
  have n1 : kn ≤ 90000 := by omega
  have LL : Hid _ := And.intro l1 l2
  have HH : Hid (∀ W, Below w.heap.size w W → Sl W ka kn kc (sv ks) ∧ Sl W va kn vc (sv vs)) := fun W b => ⟨h1.below b, h2.below b⟩
  have KP : Hid _ := fun (W : World) (b : Below w.heap.size w W) => kplace_any _ _ key W (HV.out W b) f R
  have C0 : Hid (Rz w (.bool true) (.slice ka kn kc) (.slice va kn vc) (.slice ia im ic) ((w.alloc (.cells #[.bool true, .slice ka kn kc, .slice va kn vc, .slice ia im ic] 35)).alloc (.cells #[.bool false, .slice none 0 0, .slice none 0 0, .slice none 0 0] 35))) := Rz.new w _ _ _ _ _ _
  have PF := plS_found (ks := ks) (x := key)
  clear h h1 h2 h3 f l1 l2 b1 he
  simp only at KP
  cases fd : fnd ks key with
  | true =>
    have EQ : Hid (dropP ⟨true, ks, vs, []⟩ key = ⟨true, delAt ks (posS ks key), delAt vs (posS ks key), []⟩) := dropP_yes fd
    have hN : plS ks key = posS ks key + 1 := by unfold plS; rw [fd]; rfl
    obtain ⟨p1, p2⟩ := fnd_true fd
    generalize posS ks key = P at *
    generalize plS ks key = N at *
    have PK : Hid (P < kn ∧ kAt ks P = key) := ⟨by have := LL.out; omega, p2⟩
    have pk : (P : Int) < (kn : Int) := by have := PK.out; omega
    have cN : (0 : Int) < (N : Int) := by omega
    have dN : (N : Int) - 1 = (P : Int) := by omega
    have dN' : 0 < N := by omega
    have wP : IntKind.i64.wrap (P : Int) = (P : Int) := by rw [IntKind.wrap_i64]; omega
    clear hN p1 p2 fd PF
    obtain ⟨kb, ko, rfl, _⟩ := (HH.out w (Below.refl _ _)).1.at (by have := PK.out; omega)
    go_enter Try.func27, Try.ntmps27
    go_upto_region 1 with fail
    generalize (w.alloc (.cells #[.bool true, .slice (some ⟨kb, ko, none⟩) kn kc, .slice va kn vc, .slice ia im ic] 35)).alloc (.cells #[.bool false, .slice none 0 0, .slice none 0 0, .slice none 0 0] 35) = W0 at *
    have x0 := C0.out.box.a0
    have x1 := C0.out.box.a1
    have x2 := C0.out.box.a2
    have x3 := C0.out.box.a3
    go_wp2_with fail
    refine Calls.mono (KP.out W0 C0.out.bel) ?_
    rintro e w1 ⟨rfl, b1⟩
    clear x0 x1 x2 x3 KP
    have R1 : Hid _ := C0.out.next b1
    have x0 := R1.out.box.a0
    have x1 := R1.out.box.a1
    have x2 := R1.out.box.a2
    have x3 := R1.out.box.a3
    have e1 : w1.cell? ⟨kb, ko + P, none⟩ = some (.string key) := by
      have := (HH.out w1 R1.out.bel).1.str PK.out.1
      rw [← PK.out.2]
      exact this
    have q3 : (key.toList == key.toList) = true := by simp
    go_upto_region 3 with fail
    clear x0 x1 x2 x3 e1 q3
    refine wp_region_held_drew (S := (fun W => W.cell? ⟨w.heap.size, 0, none⟩ = some (.bool true) ∧ W.cell? ⟨w.heap.size, 1, none⟩ = some (.slice (some ⟨kb, ko, none⟩) kn kc) ∧ W.cell? ⟨w.heap.size, 2, none⟩ = some (.slice va kn vc) ∧ W.cell? ⟨w.heap.size, 3, none⟩ = some (.slice ia im ic))) (by kernel_rfl) (s4_of (R1.out.next (Below.refl _ _).drew).box) (fun hHeld => ?_)
    refine take2 rfl (i := 0) (v := .pointer (some ⟨w.heap.size, 1, none⟩)) (d := 21) rfl rfl (by kernel_rfl) (by kernel_rfl) (by kernel_rfl) (fun _ _ _ h => h) (Or.inl ⟨by rfl, ?_⟩) hHeld ?_
    · (intro W hW; (try dsimp only at hW); go_simp)
    try simp only [Act.put, List.setIfInBounds_toArray, List.set_cons_zero, List.set_cons_succ]
    refine take2 rfl (i := 1) (v := .slice (some ⟨kb, ko, none⟩) kn kc) (d := 22) rfl rfl (by kernel_rfl) (by kernel_rfl) (by kernel_rfl) (fun _ _ _ h => h) (Or.inl ⟨by rfl, ?_⟩) hHeld ?_
    · (intro W hW; (try dsimp only at hW); go_simp)
    try simp only [Act.put, List.setIfInBounds_toArray, List.set_cons_zero, List.set_cons_succ]
    refine take2 rfl (i := 2) (v := .int .i64 (N : Nat)) (d := 23) rfl rfl (by kernel_rfl) (by kernel_rfl) (by kernel_rfl) (fun _ _ _ h => h) (Or.inl ⟨by rfl, ?_⟩) hHeld ?_
    · (intro W hW; (try dsimp only at hW); go_simp)
    try simp only [Act.put, List.setIfInBounds_toArray, List.set_cons_zero, List.set_cons_succ]
    refine take2 rfl (i := 3) (v := .int .i64 (P : Nat)) (d := 24) rfl rfl (by kernel_rfl) (by kernel_rfl) (by kernel_rfl) (fun _ _ _ h => h) (Or.inl ⟨by rfl, ?_⟩) hHeld ?_
    · (intro W hW; (try dsimp only at hW); go_simp)
    try simp only [Act.put, List.setIfInBounds_toArray, List.set_cons_zero, List.set_cons_succ]
    refine take2 rfl (i := 5) (v := .pointer (some ⟨w.heap.size, 2, none⟩)) (d := 26) rfl rfl (by kernel_rfl) (by kernel_rfl) (by kernel_rfl) (fun _ _ _ h => h) (Or.inl ⟨by rfl, ?_⟩) hHeld ?_
    · (intro W hW; (try dsimp only at hW); go_simp)
    try simp only [Act.put, List.setIfInBounds_toArray, List.set_cons_zero, List.set_cons_succ]
    refine take2 rfl (i := 6) (v := .slice va kn vc) (d := 27) rfl rfl (by kernel_rfl) (by kernel_rfl) (by kernel_rfl) (fun _ _ _ h => h) (Or.inl ⟨by rfl, ?_⟩) hHeld ?_
    · (intro W hW; (try dsimp only at hW); go_simp)
    try simp only [Act.put, List.setIfInBounds_toArray, List.set_cons_zero, List.set_cons_succ]
    refine take2 rfl (i := 7) (v := .int .i64 (N : Nat)) (d := 28) rfl rfl (by kernel_rfl) (by kernel_rfl) (by kernel_rfl) (fun _ _ _ h => h) (Or.inl ⟨by rfl, ?_⟩) hHeld ?_
    · (intro W hW; (try dsimp only at hW); go_simp)
    try simp only [Act.put, List.setIfInBounds_toArray, List.set_cons_zero, List.set_cons_succ]
    refine take2 rfl (i := 8) (v := .int .i64 (P : Nat)) (d := 29) rfl rfl (by kernel_rfl) (by kernel_rfl) (by kernel_rfl) (fun _ _ _ h => h) (Or.inl ⟨by rfl, ?_⟩) hHeld ?_
    · (intro W hW; (try dsimp only at hW); go_simp)
    try simp only [Act.put, List.setIfInBounds_toArray, List.set_cons_zero, List.set_cons_succ]
    have R2 : Hid _ := R1.out.next (Below.refl w1.heap.size w1).drew
    refine wpAnyH_ready (rs := [4]) (by kernel_rfl) (by simp) ?_
    refine cons2 rfl rfl (fun K9 hK => ?_)
    go_simp
    go_at_call 52
    refine Calls.mono (kcut_del _ kn kc ks P _ (HH.out _ R2.out.bel).1 PK.out.1 (by omega)) ?_
    rintro e w3 ⟨a3, m3, c3, rfl, s3, b3⟩
    have R3 : Hid _ := R2.out.next b3
    go_wp2_with fail
    refine hK.out _ _ (s4_of R3.out.box) (fun hX => ?_)
    clear hK K9 hHeld
    have hHeld := hX
    clear hX
    try simp only [Act.put, List.setIfInBounds_toArray, List.set_cons_zero, List.set_cons_succ]
    refine wpAnyH_ready (rs := [9]) (by kernel_rfl) (by simp) ?_
    refine cons2 rfl rfl (fun K9 hK => ?_)
    go_simp
    go_at_call 52
    refine Calls.mono (kcut_del va kn vc vs P _ (HH.out _ R3.out.bel).2 PK.out.1 (by omega)) ?_
    rintro e w4 ⟨a4, m4, c4, rfl, s4, b4⟩
    have R4 : Hid _ := R3.out.next b4
    go_wp2_with fail
    refine hK.out _ _ (s4_of R4.out.box) (fun hX => ?_)
    clear hK K9 hHeld
    have hHeld := hX
    clear hX
    try simp only [Act.put, List.setIfInBounds_toArray, List.set_cons_zero, List.set_cons_succ]
    have PQ : Hid (Pv w4 (.agg #[.bool true, .slice a3 m3 c3, .slice a4 m4 c4, .slice none 0 0]) ⟨true, delAt ks P, delAt vs P, []⟩) := Pv.mk' (s3.below b4) s4 (Sl.empty _) (fun k hk => by simp at hk)
    refine take2 rfl (i := 10) (v := (.agg #[.bool true, .slice a3 m3 c3, .slice a4 m4 c4, .slice none 0 0])) (d := 31) rfl rfl (by kernel_rfl) (by kernel_rfl) (by kernel_rfl) (fun _ _ _ h => h) (Or.inl ⟨by rfl, ?_⟩) hHeld ?_
    · (intro W hW; (try dsimp only at hW); go_simp)
    try simp only [Act.put, List.setIfInBounds_toArray, List.set_cons_zero, List.set_cons_succ]
    have X : Hid _ := R4.out.fin (q := ⟨true, delAt ks P, delAt vs P, []⟩) PQ.out
    unfold st4 at X
    simp only at X
    obtain ⟨r0, r1, r2, r3⟩ := R4.out.res.b4
    simp only [zeroP] at r0
    have rz := R4.out.res.fz
    refine wpAnyH_ready (rs := [11]) (by kernel_rfl) (by simp) ?_
    refine cons2 rfl rfl (fun K9 hK => ?_)
    go_simp
    refine hK.out _ _ (s4_of X.out.2.2.2) (fun hX => ?_)
    clear hK K9 hHeld hX r0 r1 r2 r3 rz
    try simp only [Act.put, List.setIfInBounds_toArray, List.set_cons_zero, List.set_cons_succ]
    refine wpAnyH_done (by kernel_rfl) ?_ _
    generalize ((((w4.setCell ⟨w.heap.size + 1, 0, none⟩ (.bool true)).setCell ⟨w.heap.size + 1, 1, none⟩ (.slice a3 m3 c3)).setCell ⟨w.heap.size + 1, 2, none⟩ (.slice a4 m4 c4)).setCell ⟨w.heap.size + 1, 3, none⟩ (.slice none 0 0)) = W8 at *
    obtain ⟨⟨t0, t1, t2, t3⟩, PV, BL, _⟩ := X.out
    go_wp2
    rw [EQ.out]
    exact bodyPost_ret (v := .agg #[.bool true, .slice a3 m3 c3, .slice a4 m4 c4, .slice none 0 0]) (by simp [results, Try.results27, go_sem, t0, t1, t2, t3]) rfl ⟨⟨_, rfl, PV⟩, BL⟩
  | false =>
    have EQ : Hid (dropP ⟨true, ks, vs, []⟩ key = ⟨true, ks, vs, []⟩) := dropP_no fd
    rw [fd] at PF
    have pl := plS_le ks key
    generalize plS ks key = N at *
    by_cases c0 : N = 0
    · subst c0
      go_enter Try.func27, Try.ntmps27
      go_upto_region 1 with fail
      generalize (w.alloc (.cells #[.bool true, .slice ka kn kc, .slice va kn vc, .slice ia im ic] 35)).alloc (.cells #[.bool false, .slice none 0 0, .slice none 0 0, .slice none 0 0] 35) = W0 at *
      have x0 := C0.out.box.a0
      have x1 := C0.out.box.a1
      have x2 := C0.out.box.a2
      have x3 := C0.out.box.a3
      go_wp2_with fail
      refine Calls.mono (KP.out W0 C0.out.bel) ?_
      rintro e w1 ⟨rfl, b1⟩
      clear x0 x1 x2 x3 KP
      have R1 : Hid _ := C0.out.next b1
      have x0 := R1.out.box.a0
      have x1 := R1.out.box.a1
      have x2 := R1.out.box.a2
      have x3 := R1.out.box.a3
      have PQ : Hid _ := HV.out w1 R1.out.bel
      have X : Hid _ := R1.out.fin (q := ⟨true, ks, vs, []⟩) PQ.out
      unfold st4 at X
      simp only at X
      obtain ⟨r0, r1, r2, r3⟩ := R1.out.res.b4
      simp only [zeroP] at r0
      have rz := R1.out.res.fz
      go_wp2
      clear x0 x1 x2 x3 r0 r1 r2 r3 rz
      generalize ((((w1.setCell ⟨w.heap.size + 1, 0, none⟩ (.bool true)).setCell ⟨w.heap.size + 1, 1, none⟩ (.slice ka kn kc)).setCell ⟨w.heap.size + 1, 2, none⟩ (.slice va kn vc)).setCell ⟨w.heap.size + 1, 3, none⟩ (.slice ia im ic)) = W8 at *
      obtain ⟨⟨t0, t1, t2, t3⟩, PV, BL, _⟩ := X.out
      rw [EQ.out]
      exact bodyPost_ret (v := .agg #[.bool true, .slice ka kn kc, .slice va kn vc, .slice ia im ic]) (by simp [results, Try.results27, go_sem, t0, t1, t2, t3]) rfl ⟨⟨_, rfl, PV⟩, BL⟩
    · obtain ⟨P, hP⟩ : ∃ P, N = P + 1 := ⟨N - 1, by omega⟩
      have PK : Hid (P < kn) := by have := LL.out; show _ < _; omega
      have NE : Hid (kAt ks P ≠ key) := fun e => by
        have := of_decide_eq_false PF
        exact this ⟨by omega, by rw [hP, Nat.add_sub_cancel]; exact e⟩
      have pk : (P : Int) < (kn : Int) := by have := PK.out; omega
      have cN : (0 : Int) < (N : Int) := by omega
      have dN : (N : Int) - 1 = (P : Int) := by omega
      have dN' : 0 < N := by omega
      clear hP PF c0 pl
      obtain ⟨kb, ko, rfl, _⟩ := (HH.out w (Below.refl _ _)).1.at (by have := PK.out; omega)
      go_enter Try.func27, Try.ntmps27
      go_upto_region 1 with fail
      generalize (w.alloc (.cells #[.bool true, .slice (some ⟨kb, ko, none⟩) kn kc, .slice va kn vc, .slice ia im ic] 35)).alloc (.cells #[.bool false, .slice none 0 0, .slice none 0 0, .slice none 0 0] 35) = W0 at *
      have x0 := C0.out.box.a0
      have x1 := C0.out.box.a1
      have x2 := C0.out.box.a2
      have x3 := C0.out.box.a3
      go_wp2_with fail
      refine Calls.mono (KP.out W0 C0.out.bel) ?_
      rintro e w1 ⟨rfl, b1⟩
      clear x0 x1 x2 x3 KP
      have R1 : Hid _ := C0.out.next b1
      have x0 := R1.out.box.a0
      have x1 := R1.out.box.a1
      have x2 := R1.out.box.a2
      have x3 := R1.out.box.a3
      have e1 : w1.cell? ⟨kb, ko + P, none⟩ = some (.string (kAt ks P)) := (HH.out w1 R1.out.bel).1.str PK.out
      have q3 : ((kAt ks P).toList == key.toList) = false := by rw [toL_eq]; exact decide_eq_false NE.out
      generalize kAt ks P = s at *
      have PQ : Hid _ := HV.out w1 R1.out.bel
      have X : Hid _ := R1.out.fin (q := ⟨true, ks, vs, []⟩) PQ.out
      unfold st4 at X
      simp only at X
      obtain ⟨r0, r1, r2, r3⟩ := R1.out.res.b4
      simp only [zeroP] at r0
      have rz := R1.out.res.fz
      go_wp2
      clear x0 x1 x2 x3 r0 r1 r2 r3 rz
      generalize ((((w1.setCell ⟨w.heap.size + 1, 0, none⟩ (.bool true)).setCell ⟨w.heap.size + 1, 1, none⟩ (.slice (some ⟨kb, ko, none⟩) kn kc)).setCell ⟨w.heap.size + 1, 2, none⟩ (.slice va kn vc)).setCell ⟨w.heap.size + 1, 3, none⟩ (.slice ia im ic)) = W8 at *
      obtain ⟨⟨t0, t1, t2, t3⟩, PV, BL, _⟩ := X.out
      rw [EQ.out]
      exact bodyPost_ret (v := .agg #[.bool true, .slice (some ⟨kb, ko, none⟩) kn kc, .slice va kn vc, .slice ia im ic]) (by simp [results, Try.results27, go_sem, t0, t1, t2, t3]) rfl ⟨⟨_, rfl, PV⟩, BL⟩

set_option maxRecDepth 100000 in
set_option maxHeartbeats 4000000 in
theorem kPutLeaf_any (v : Value) (p : Pg) (key val : ByteArray) (w : World) (h : Pv w v p) (f : Bd p) (R : Rise p.keys) (hl : p.leaf = true) (he : p.vals.length = p.keys.length) (hk : p.kids = []) :
    Calls Try.prog 25 #[v, .string key, .string val] w fun e w' => NewP w w' e (putP p key val) := by
  have HV : Hid (∀ W, Below w.heap.size w W → Pv W v p) := fun W b => h.below b
  obtain ⟨ka, kn, kc, va, vn, vc, ia, im, ic, rfl, h1, h2, h3⟩ := h.ex
  obtain ⟨lf, ks, vs, is⟩ := p
  simp only at h1 h2 h3 R hl he hk HV
  subst hl hk
  have l1 := h1.slen
  have l2 := h2.slen
  obtain rfl : kn = vn := by omega
  have b1 := f.keys
  simp only at b1
  have n1 : kn ≤ 90000 := by omega
  have LL : Hid _ := And.intro l1 l2
  have HH : Hid (∀ W, Below w.heap.size w W → Sl W ka kn kc (sv ks) ∧ Sl W va kn vc (sv vs)) := fun W b => ⟨h1.below b, h2.below b⟩
  have KP : Hid _ := fun (W : World) (b : Below w.heap.size w W) => kplace_any _ _ key W (HV.out W b) f R
  have C0 : Hid (Rz w (.bool true) (.slice ka kn kc) (.slice va kn vc) (.slice ia im ic) ((w.alloc (.cells #[.bool true, .slice ka kn kc, .slice va kn vc, .slice ia im ic] 35)).alloc (.cells #[.bool false, .slice none 0 0, .slice none 0 0, .slice none 0 0] 35))) := Rz.new w _ _ _ _ _ _
  have PF := plS_found (ks := ks) (x := key)
  clear h h1 h2 h3 f l1 l2 b1 he
  simp only at KP
  cases fd : fnd ks key with
  | true =>
    have EQ : Hid (putP ⟨true, ks, vs, []⟩ key val = ⟨true, ks, setAt vs (posS ks key) val, []⟩) := putP_yes fd
    have hN : plS ks key = posS ks key + 1 := by unfold plS; rw [fd]; rfl
    obtain ⟨p1, p2⟩ := fnd_true fd
    generalize posS ks key = P at *
    generalize plS ks key = N at *
    have PK : Hid (P < kn ∧ kAt ks P = key) := ⟨by have := LL.out; omega, p2⟩
    have pk : (P : Int) < (kn : Int) := by have := PK.out; omega
    have cN : (0 : Int) < (N : Int) := by omega
    have dN : (N : Int) - 1 = (P : Int) := by omega
    have dN' : 0 < N := by omega
    have wP : IntKind.i64.wrap (P : Int) = (P : Int) := by rw [IntKind.wrap_i64]; omega
    clear hN p1 p2 fd PF
    obtain ⟨kb, ko, rfl, _⟩ := (HH.out w (Below.refl _ _)).1.at (by have := PK.out; omega)
    go_enter Try.func25, Try.ntmps25
    go_upto_region 1 with fail
    generalize (w.alloc (.cells #[.bool true, .slice (some ⟨kb, ko, none⟩) kn kc, .slice va kn vc, .slice ia im ic] 35)).alloc (.cells #[.bool false, .slice none 0 0, .slice none 0 0, .slice none 0 0] 35) = W0 at *
    have x0 := C0.out.box.a0
    have x1 := C0.out.box.a1
    have x2 := C0.out.box.a2
    have x3 := C0.out.box.a3
    go_wp2_with fail
    refine Calls.mono (KP.out W0 C0.out.bel) ?_
    rintro e w1 ⟨rfl, b1⟩
    clear x0 x1 x2 x3 KP
    have R1 : Hid _ := C0.out.next b1
    have x0 := R1.out.box.a0
    have x1 := R1.out.box.a1
    have x2 := R1.out.box.a2
    have x3 := R1.out.box.a3
    have e1 : w1.cell? ⟨kb, ko + P, none⟩ = some (.string key) := by
      have := (HH.out w1 R1.out.bel).1.str PK.out.1
      rw [← PK.out.2]
      exact this
    have q3 : (key.toList == key.toList) = true := by simp
    go_upto_region 3 with fail
    clear x0 x1 x2 x3 e1 q3
    refine wp_region_held_drew (S := (fun W => W.cell? ⟨w.heap.size, 0, none⟩ = some (.bool true) ∧ W.cell? ⟨w.heap.size, 1, none⟩ = some (.slice (some ⟨kb, ko, none⟩) kn kc) ∧ W.cell? ⟨w.heap.size, 2, none⟩ = some (.slice va kn vc) ∧ W.cell? ⟨w.heap.size, 3, none⟩ = some (.slice ia im ic))) (by kernel_rfl) (s4_of (R1.out.next (Below.refl _ _).drew).box) (fun hHeld => ?_)
    refine take2 rfl (i := 0) (v := .pointer (some ⟨w.heap.size, 1, none⟩)) (d := 23) rfl rfl (by kernel_rfl) (by kernel_rfl) (by kernel_rfl) (fun _ _ _ h => h) (Or.inl ⟨by rfl, ?_⟩) hHeld ?_
    · (intro W hW; (try dsimp only at hW); go_simp)
    try simp only [Act.put, List.setIfInBounds_toArray, List.set_cons_zero, List.set_cons_succ]
    refine take2 rfl (i := 1) (v := .slice (some ⟨kb, ko, none⟩) kn kc) (d := 24) rfl rfl (by kernel_rfl) (by kernel_rfl) (by kernel_rfl) (fun _ _ _ h => h) (Or.inl ⟨by rfl, ?_⟩) hHeld ?_
    · (intro W hW; (try dsimp only at hW); go_simp)
    try simp only [Act.put, List.setIfInBounds_toArray, List.set_cons_zero, List.set_cons_succ]
    refine take2 rfl (i := 2) (v := .pointer (some ⟨w.heap.size, 2, none⟩)) (d := 25) rfl rfl (by kernel_rfl) (by kernel_rfl) (by kernel_rfl) (fun _ _ _ h => h) (Or.inl ⟨by rfl, ?_⟩) hHeld ?_
    · (intro W hW; (try dsimp only at hW); go_simp)
    try simp only [Act.put, List.setIfInBounds_toArray, List.set_cons_zero, List.set_cons_succ]
    refine take2 rfl (i := 3) (v := .slice va kn vc) (d := 26) rfl rfl (by kernel_rfl) (by kernel_rfl) (by kernel_rfl) (fun _ _ _ h => h) (Or.inl ⟨by rfl, ?_⟩) hHeld ?_
    · (intro W hW; (try dsimp only at hW); go_simp)
    try simp only [Act.put, List.setIfInBounds_toArray, List.set_cons_zero, List.set_cons_succ]
    refine take2 rfl (i := 4) (v := .int .i64 (N : Nat)) (d := 27) rfl rfl (by kernel_rfl) (by kernel_rfl) (by kernel_rfl) (fun _ _ _ h => h) (Or.inl ⟨by rfl, ?_⟩) hHeld ?_
    · (intro W hW; (try dsimp only at hW); go_simp)
    try simp only [Act.put, List.setIfInBounds_toArray, List.set_cons_zero, List.set_cons_succ]
    refine take2 rfl (i := 5) (v := .int .i64 (P : Nat)) (d := 28) rfl rfl (by kernel_rfl) (by kernel_rfl) (by kernel_rfl) (fun _ _ _ h => h) (Or.inl ⟨by rfl, ?_⟩) hHeld ?_
    · (intro W hW; (try dsimp only at hW); go_simp)
    try simp only [Act.put, List.setIfInBounds_toArray, List.set_cons_zero, List.set_cons_succ]
    refine take2 rfl (i := 6) (v := .string val) (d := 29) rfl rfl (by kernel_rfl) (by kernel_rfl) (by kernel_rfl) (fun _ _ _ h => h) (Or.inl ⟨by rfl, ?_⟩) hHeld ?_
    · (intro W hW; (try dsimp only at hW); go_simp)
    try simp only [Act.put, List.setIfInBounds_toArray, List.set_cons_zero, List.set_cons_succ]
    have R2 : Hid _ := R1.out.next (Below.refl w1.heap.size w1).drew
    generalize w1.drew = wz at *
    refine wpAnyH_ready (rs := [7]) (by kernel_rfl) (by simp) ?_
    refine cons2 rfl rfl (fun K9 hK => ?_)
    go_simp
    have Z3 : Hid _ := And.intro (allocB wz (.cells #[.string val] 9)) (sl_one wz (.string val) rfl 9)
    have R3 : Hid _ := R2.out.next Z3.out.1
    refine hK.out _ _ (s4_of R3.out.box) (fun hX => ?_)
    clear hK K9 hHeld
    have hHeld := hX
    clear hX
    try simp only [Act.put, List.setIfInBounds_toArray, List.set_cons_zero, List.set_cons_succ]
    generalize wz.alloc (.cells #[.string val] 9) = w3 at *
    refine wpAnyH_ready (rs := [8]) (by kernel_rfl) (by simp) ?_
    refine cons2 rfl rfl (fun K9 hK => ?_)
    go_simp
    go_at_call 52
    refine Calls.mono (kcut_set va kn vc vs P val _ _ (HH.out _ R3.out.bel).2 Z3.out.2 PK.out.1 (by omega)) ?_
    rintro e w4 ⟨a4, m4, c4, rfl, s4, b4⟩
    have R4 : Hid _ := R3.out.next b4
    go_wp2_with fail
    refine hK.out _ _ (s4_of R4.out.box) (fun hX => ?_)
    clear hK K9 hHeld
    have hHeld := hX
    clear hX
    try simp only [Act.put, List.setIfInBounds_toArray, List.set_cons_zero, List.set_cons_succ]
    have PQ : Hid (Pv w4 (.agg #[.bool true, .slice (some ⟨kb, ko, none⟩) kn kc, .slice a4 m4 c4, .slice none 0 0]) ⟨true, ks, setAt vs P val, []⟩) := Pv.mk' (HH.out _ R4.out.bel).1 s4 (Sl.empty _) (fun k hk => by simp at hk)
    refine take2 rfl (i := 9) (v := (.agg #[.bool true, .slice (some ⟨kb, ko, none⟩) kn kc, .slice a4 m4 c4, .slice none 0 0])) (d := 32) rfl rfl (by kernel_rfl) (by kernel_rfl) (by kernel_rfl) (fun _ _ _ h => h) (Or.inl ⟨by rfl, ?_⟩) hHeld ?_
    · (intro W hW; (try dsimp only at hW); go_simp)
    try simp only [Act.put, List.setIfInBounds_toArray, List.set_cons_zero, List.set_cons_succ]
    have X : Hid _ := R4.out.fin (q := ⟨true, ks, setAt vs P val, []⟩) PQ.out
    unfold st4 at X
    simp only at X
    obtain ⟨r0, r1, r2, r3⟩ := R4.out.res.b4
    simp only [zeroP] at r0
    have rz := R4.out.res.fz
    refine wpAnyH_ready (rs := [10]) (by kernel_rfl) (by simp) ?_
    refine cons2 rfl rfl (fun K9 hK => ?_)
    go_simp
    refine hK.out _ _ (s4_of X.out.2.2.2) (fun hX => ?_)
    clear hK K9 hHeld hX r0 r1 r2 r3 rz
    try simp only [Act.put, List.setIfInBounds_toArray, List.set_cons_zero, List.set_cons_succ]
    refine wpAnyH_done (by kernel_rfl) ?_ _
    generalize ((((w4.setCell ⟨w.heap.size + 1, 0, none⟩ (.bool true)).setCell ⟨w.heap.size + 1, 1, none⟩ (.slice (some ⟨kb, ko, none⟩) kn kc)).setCell ⟨w.heap.size + 1, 2, none⟩ (.slice a4 m4 c4)).setCell ⟨w.heap.size + 1, 3, none⟩ (.slice none 0 0)) = W8 at *
    obtain ⟨⟨t0, t1, t2, t3⟩, PV, BL, _⟩ := X.out
    go_wp2
    rw [EQ.out]
    exact bodyPost_ret (v := .agg #[.bool true, .slice (some ⟨kb, ko, none⟩) kn kc, .slice a4 m4 c4, .slice none 0 0]) (by simp [results, Try.results25, go_sem, t0, t1, t2, t3]) rfl ⟨⟨_, rfl, PV⟩, BL⟩
  | false =>
    have EQ' := putP_no (p := ⟨true, ks, vs, []⟩) (v := val) fd
    have hN : plS ks key = posS ks key := by unfold plS; rw [fd]; rfl
    simp only at EQ'
    rw [← hN] at EQ'
    rw [fd] at PF
    have pl := plS_le ks key
    clear hN fd
    generalize plS ks key = N at *
    have EQ : Hid _ := EQ'
    have NL : Hid (N ≤ kn) := by have := LL.out; show _ ≤ _; omega
    clear EQ'
    by_cases c0 : N = 0
    · subst c0
      go_enter Try.func25, Try.ntmps25
      go_upto_region 1 with fail
      generalize (w.alloc (.cells #[.bool true, .slice ka kn kc, .slice va kn vc, .slice ia im ic] 35)).alloc (.cells #[.bool false, .slice none 0 0, .slice none 0 0, .slice none 0 0] 35) = W0 at *
      have x0 := C0.out.box.a0
      have x1 := C0.out.box.a1
      have x2 := C0.out.box.a2
      have x3 := C0.out.box.a3
      go_wp2_with fail
      refine Calls.mono (KP.out W0 C0.out.bel) ?_
      rintro e w1 ⟨rfl, b1⟩
      clear x0 x1 x2 x3 KP
      have R1 : Hid _ := C0.out.next b1
      have x0 := R1.out.box.a0
      have x1 := R1.out.box.a1
      have x2 := R1.out.box.a2
      have x3 := R1.out.box.a3
      go_upto_region 4 with fail
      clear x0 x1 x2 x3
      refine wp_region_held_drew (S := (fun W => W.cell? ⟨w.heap.size, 0, none⟩ = some (.bool true) ∧ W.cell? ⟨w.heap.size, 1, none⟩ = some (.slice ka kn kc) ∧ W.cell? ⟨w.heap.size, 2, none⟩ = some (.slice va kn vc) ∧ W.cell? ⟨w.heap.size, 3, none⟩ = some (.slice ia im ic))) (by kernel_rfl) (s4_of (R1.out.next (Below.refl _ _).drew).box) (fun hHeld => ?_)
      refine take2 rfl (i := 0) (v := .pointer (some ⟨w.heap.size, 1, none⟩)) (d := 33) rfl rfl (by kernel_rfl) (by kernel_rfl) (by kernel_rfl) (fun _ _ _ h => h) (Or.inl ⟨by rfl, ?_⟩) hHeld ?_
      · (intro W hW; (try dsimp only at hW); go_simp)
      try simp only [Act.put, List.setIfInBounds_toArray, List.set_cons_zero, List.set_cons_succ]
      refine take2 rfl (i := 1) (v := .slice ka kn kc) (d := 34) rfl rfl (by kernel_rfl) (by kernel_rfl) (by kernel_rfl) (fun _ _ _ h => h) (Or.inl ⟨by rfl, ?_⟩) hHeld ?_
      · (intro W hW; (try dsimp only at hW); go_simp)
      try simp only [Act.put, List.setIfInBounds_toArray, List.set_cons_zero, List.set_cons_succ]
      refine take2 rfl (i := 2) (v := .int .i64 0) (d := 35) rfl rfl (by kernel_rfl) (by kernel_rfl) (by kernel_rfl) (fun _ _ _ h => h) (Or.inl ⟨by rfl, ?_⟩) hHeld ?_
      · (intro W hW; (try dsimp only at hW); go_simp)
      try simp only [Act.put, List.setIfInBounds_toArray, List.set_cons_zero, List.set_cons_succ]
      refine take2 rfl (i := 3) (v := .string key) (d := 36) rfl rfl (by kernel_rfl) (by kernel_rfl) (by kernel_rfl) (fun _ _ _ h => h) (Or.inl ⟨by rfl, ?_⟩) hHeld ?_
      · (intro W hW; (try dsimp only at hW); go_simp)
      try simp only [Act.put, List.setIfInBounds_toArray, List.set_cons_zero, List.set_cons_succ]
      refine take2 rfl (i := 6) (v := .pointer (some ⟨w.heap.size, 2, none⟩)) (d := 39) rfl rfl (by kernel_rfl) (by kernel_rfl) (by kernel_rfl) (fun _ _ _ h => h) (Or.inl ⟨by rfl, ?_⟩) hHeld ?_
      · (intro W hW; (try dsimp only at hW); go_simp)
      try simp only [Act.put, List.setIfInBounds_toArray, List.set_cons_zero, List.set_cons_succ]
      refine take2 rfl (i := 7) (v := .slice va kn vc) (d := 40) rfl rfl (by kernel_rfl) (by kernel_rfl) (by kernel_rfl) (fun _ _ _ h => h) (Or.inl ⟨by rfl, ?_⟩) hHeld ?_
      · (intro W hW; (try dsimp only at hW); go_simp)
      try simp only [Act.put, List.setIfInBounds_toArray, List.set_cons_zero, List.set_cons_succ]
      refine take2 rfl (i := 8) (v := .int .i64 0) (d := 41) rfl rfl (by kernel_rfl) (by kernel_rfl) (by kernel_rfl) (fun _ _ _ h => h) (Or.inl ⟨by rfl, ?_⟩) hHeld ?_
      · (intro W hW; (try dsimp only at hW); go_simp)
      try simp only [Act.put, List.setIfInBounds_toArray, List.set_cons_zero, List.set_cons_succ]
      refine take2 rfl (i := 9) (v := .string val) (d := 42) rfl rfl (by kernel_rfl) (by kernel_rfl) (by kernel_rfl) (fun _ _ _ h => h) (Or.inl ⟨by rfl, ?_⟩) hHeld ?_
      · (intro W hW; (try dsimp only at hW); go_simp)
      try simp only [Act.put, List.setIfInBounds_toArray, List.set_cons_zero, List.set_cons_succ]
      have R2 : Hid _ := R1.out.next (Below.refl w1.heap.size w1).drew
      generalize w1.drew = wz at *
      refine wpAnyH_ready (rs := [4, 10]) (by kernel_rfl) (by simp) ?_
      refine cons22 rfl rfl rfl (fun K9 hK => ?_) (fun K9 hK => ?_)
      · go_simp
        have Z3 : Hid _ := And.intro (allocB wz (.cells #[.string key] 9)) (sl_one wz (.string key) rfl 9)
        have R3 : Hid _ := R2.out.next Z3.out.1
        refine hK.out _ _ (s4_of R3.out.box) (fun hX => ?_)
        clear hK K9 hHeld
        have hHeld := hX
        clear hX
        try simp only [Act.put, List.setIfInBounds_toArray, List.set_cons_zero, List.set_cons_succ]
        generalize wz.alloc (.cells #[.string key] 9) = w3 at *
        refine wpAnyH_ready (rs := [5, 10]) (by kernel_rfl) (by simp) ?_
        refine cons22 rfl rfl rfl (fun K9 hK => ?_) (fun K9 hK => ?_)
        · go_simp
          go_at_call 52
          refine Calls.mono (kcut_ins _ kn kc ks 0 key _ _ (HH.out _ R3.out.bel).1 Z3.out.2 NL.out (by omega)) ?_
          rintro e w4 ⟨a4, m4, c4, rfl, s4, b4⟩
          have R4 : Hid _ := R3.out.next b4
          go_wp2_with fail
          refine hK.out _ _ (s4_of R4.out.box) (fun hX => ?_)
          clear hK K9 hHeld
          have hHeld := hX
          clear hX
          try simp only [Act.put, List.setIfInBounds_toArray, List.set_cons_zero, List.set_cons_succ]
          refine wpAnyH_ready (rs := [10]) (by kernel_rfl) (by simp) ?_
          refine cons2 rfl rfl (fun K9 hK => ?_)
          go_simp
          have Z5 : Hid _ := And.intro (allocB w4 (.cells #[.string val] 9)) (sl_one w4 (.string val) rfl 9)
          have R5 : Hid _ := R4.out.next Z5.out.1
          refine hK.out _ _ (s4_of R5.out.box) (fun hX => ?_)
          clear hK K9 hHeld
          have hHeld := hX
          clear hX
          try simp only [Act.put, List.setIfInBounds_toArray, List.set_cons_zero, List.set_cons_succ]
          generalize w4.alloc (.cells #[.string val] 9) = w5 at *
          refine wpAnyH_ready (rs := [11]) (by kernel_rfl) (by simp) ?_
          refine cons2 rfl rfl (fun K9 hK => ?_)
          go_simp
          go_at_call 52
          refine Calls.mono (kcut_ins va kn vc vs 0 val _ _ (HH.out _ R5.out.bel).2 Z5.out.2 NL.out (by omega)) ?_
          rintro e w6 ⟨a6, m6, c6, rfl, s6, b6⟩
          have R6 : Hid _ := R5.out.next b6
          go_wp2_with fail
          refine hK.out _ _ (s4_of R6.out.box) (fun hX => ?_)
          clear hK K9 hHeld
          have hHeld := hX
          clear hX
          try simp only [Act.put, List.setIfInBounds_toArray, List.set_cons_zero, List.set_cons_succ]
          have PQ : Hid (Pv w6 (.agg #[.bool true, .slice a4 m4 c4, .slice a6 m6 c6, .slice none 0 0]) ⟨true, insAt ks 0 key, insAt vs 0 val, []⟩) := Pv.mk' ((s4.below Z5.out.1).below b6) s6 (Sl.empty _) (fun k hk => by simp at hk)
          refine take2 rfl (i := 12) (v := (.agg #[.bool true, .slice a4 m4 c4, .slice a6 m6 c6, .slice none 0 0])) (d := 45) rfl rfl (by kernel_rfl) (by kernel_rfl) (by kernel_rfl) (fun _ _ _ h => h) (Or.inl ⟨by rfl, ?_⟩) hHeld ?_
          · (intro W hW; (try dsimp only at hW); go_simp)
          try simp only [Act.put, List.setIfInBounds_toArray, List.set_cons_zero, List.set_cons_succ]
          have X : Hid _ := R6.out.fin (q := ⟨true, insAt ks 0 key, insAt vs 0 val, []⟩) PQ.out
          unfold st4 at X
          simp only at X
          obtain ⟨r0, r1, r2, r3⟩ := R6.out.res.b4
          simp only [zeroP] at r0
          have rz := R6.out.res.fz
          refine wpAnyH_ready (rs := [13]) (by kernel_rfl) (by simp) ?_
          refine cons2 rfl rfl (fun K9 hK => ?_)
          go_simp
          refine hK.out _ _ (s4_of X.out.2.2.2) (fun hX => ?_)
          clear hK K9 hHeld hX r0 r1 r2 r3 rz
          try simp only [Act.put, List.setIfInBounds_toArray, List.set_cons_zero, List.set_cons_succ]
          refine wpAnyH_done (by kernel_rfl) ?_ _
          generalize ((((w6.setCell ⟨w.heap.size + 1, 0, none⟩ (.bool true)).setCell ⟨w.heap.size + 1, 1, none⟩ (.slice a4 m4 c4)).setCell ⟨w.heap.size + 1, 2, none⟩ (.slice a6 m6 c6)).setCell ⟨w.heap.size + 1, 3, none⟩ (.slice none 0 0)) = W8 at *
          obtain ⟨⟨t0, t1, t2, t3⟩, PV, BL, _⟩ := X.out
          go_wp2
          rw [EQ.out]
          exact bodyPost_ret (v := .agg #[.bool true, .slice a4 m4 c4, .slice a6 m6 c6, .slice none 0 0]) (by simp [results, Try.results25, go_sem, t0, t1, t2, t3]) rfl ⟨⟨_, rfl, PV⟩, BL⟩
        · go_simp
          have Z4 : Hid _ := And.intro (allocB w3 (.cells #[.string val] 9)) (sl_one w3 (.string val) rfl 9)
          have R4 : Hid _ := R3.out.next Z4.out.1
          refine hK.out _ _ (s4_of R4.out.box) (fun hX => ?_)
          clear hK K9 hHeld
          have hHeld := hX
          clear hX
          try simp only [Act.put, List.setIfInBounds_toArray, List.set_cons_zero, List.set_cons_succ]
          generalize w3.alloc (.cells #[.string val] 9) = w4 at *
          refine wpAnyH_ready (rs := [5]) (by kernel_rfl) (by simp) ?_
          refine cons2 rfl rfl (fun K9 hK => ?_)
          go_simp
          go_at_call 52
          refine Calls.mono (kcut_ins _ kn kc ks 0 key _ _ (HH.out _ R4.out.bel).1 (Z3.out.2.below Z4.out.1) NL.out (by omega)) ?_
          rintro e w5 ⟨a5, m5, c5, rfl, s5, b5⟩
          have R5 : Hid _ := R4.out.next b5
          go_wp2_with fail
          refine hK.out _ _ (s4_of R5.out.box) (fun hX => ?_)
          clear hK K9 hHeld
          have hHeld := hX
          clear hX
          try simp only [Act.put, List.setIfInBounds_toArray, List.set_cons_zero, List.set_cons_succ]
          refine wpAnyH_ready (rs := [11]) (by kernel_rfl) (by simp) ?_
          refine cons2 rfl rfl (fun K9 hK => ?_)
          go_simp
          go_at_call 52
          refine Calls.mono (kcut_ins va kn vc vs 0 val _ _ (HH.out _ R5.out.bel).2 (Z4.out.2.below b5) NL.out (by omega)) ?_
          rintro e w6 ⟨a6, m6, c6, rfl, s6, b6⟩
          have R6 : Hid _ := R5.out.next b6
          go_wp2_with fail
          refine hK.out _ _ (s4_of R6.out.box) (fun hX => ?_)
          clear hK K9 hHeld
          have hHeld := hX
          clear hX
          try simp only [Act.put, List.setIfInBounds_toArray, List.set_cons_zero, List.set_cons_succ]
          have PQ : Hid (Pv w6 (.agg #[.bool true, .slice a5 m5 c5, .slice a6 m6 c6, .slice none 0 0]) ⟨true, insAt ks 0 key, insAt vs 0 val, []⟩) := Pv.mk' (s5.below b6) s6 (Sl.empty _) (fun k hk => by simp at hk)
          refine take2 rfl (i := 12) (v := (.agg #[.bool true, .slice a5 m5 c5, .slice a6 m6 c6, .slice none 0 0])) (d := 45) rfl rfl (by kernel_rfl) (by kernel_rfl) (by kernel_rfl) (fun _ _ _ h => h) (Or.inl ⟨by rfl, ?_⟩) hHeld ?_
          · (intro W hW; (try dsimp only at hW); go_simp)
          try simp only [Act.put, List.setIfInBounds_toArray, List.set_cons_zero, List.set_cons_succ]
          have X : Hid _ := R6.out.fin (q := ⟨true, insAt ks 0 key, insAt vs 0 val, []⟩) PQ.out
          unfold st4 at X
          simp only at X
          obtain ⟨r0, r1, r2, r3⟩ := R6.out.res.b4
          simp only [zeroP] at r0
          have rz := R6.out.res.fz
          refine wpAnyH_ready (rs := [13]) (by kernel_rfl) (by simp) ?_
          refine cons2 rfl rfl (fun K9 hK => ?_)
          go_simp
          refine hK.out _ _ (s4_of X.out.2.2.2) (fun hX => ?_)
          clear hK K9 hHeld hX r0 r1 r2 r3 rz
          try simp only [Act.put, List.setIfInBounds_toArray, List.set_cons_zero, List.set_cons_succ]
          refine wpAnyH_done (by kernel_rfl) ?_ _
          generalize ((((w6.setCell ⟨w.heap.size + 1, 0, none⟩ (.bool true)).setCell ⟨w.heap.size + 1, 1, none⟩ (.slice a5 m5 c5)).setCell ⟨w.heap.size + 1, 2, none⟩ (.slice a6 m6 c6)).setCell ⟨w.heap.size + 1, 3, none⟩ (.slice none 0 0)) = W8 at *
          obtain ⟨⟨t0, t1, t2, t3⟩, PV, BL, _⟩ := X.out
          go_wp2
          rw [EQ.out]
          exact bodyPost_ret (v := .agg #[.bool true, .slice a5 m5 c5, .slice a6 m6 c6, .slice none 0 0]) (by simp [results, Try.results25, go_sem, t0, t1, t2, t3]) rfl ⟨⟨_, rfl, PV⟩, BL⟩
      · go_simp
        have Z3 : Hid _ := And.intro (allocB wz (.cells #[.string val] 9)) (sl_one wz (.string val) rfl 9)
        have R3 : Hid _ := R2.out.next Z3.out.1
        refine hK.out _ _ (s4_of R3.out.box) (fun hX => ?_)
        clear hK K9 hHeld
        have hHeld := hX
        clear hX
        try simp only [Act.put, List.setIfInBounds_toArray, List.set_cons_zero, List.set_cons_succ]
        generalize wz.alloc (.cells #[.string val] 9) = w3 at *
        refine wpAnyH_ready (rs := [4]) (by kernel_rfl) (by simp) ?_
        refine cons2 rfl rfl (fun K9 hK => ?_)
        go_simp
        have Z4 : Hid _ := And.intro (allocB w3 (.cells #[.string key] 9)) (sl_one w3 (.string key) rfl 9)
        have R4 : Hid _ := R3.out.next Z4.out.1
        refine hK.out _ _ (s4_of R4.out.box) (fun hX => ?_)
        clear hK K9 hHeld
        have hHeld := hX
        clear hX
        try simp only [Act.put, List.setIfInBounds_toArray, List.set_cons_zero, List.set_cons_succ]
        generalize w3.alloc (.cells #[.string key] 9) = w4 at *
        refine wpAnyH_ready (rs := [5]) (by kernel_rfl) (by simp) ?_
        refine cons2 rfl rfl (fun K9 hK => ?_)
        go_simp
        go_at_call 52
        refine Calls.mono (kcut_ins _ kn kc ks 0 key _ _ (HH.out _ R4.out.bel).1 Z4.out.2 NL.out (by omega)) ?_
        rintro e w5 ⟨a5, m5, c5, rfl, s5, b5⟩
        have R5 : Hid _ := R4.out.next b5
        go_wp2_with fail
        refine hK.out _ _ (s4_of R5.out.box) (fun hX => ?_)
        clear hK K9 hHeld
        have hHeld := hX
        clear hX
        try simp only [Act.put, List.setIfInBounds_toArray, List.set_cons_zero, List.set_cons_succ]
        refine wpAnyH_ready (rs := [11]) (by kernel_rfl) (by simp) ?_
        refine cons2 rfl rfl (fun K9 hK => ?_)
        go_simp
        go_at_call 52
        refine Calls.mono (kcut_ins va kn vc vs 0 val _ _ (HH.out _ R5.out.bel).2 ((Z3.out.2.below Z4.out.1).below b5) NL.out (by omega)) ?_
        rintro e w6 ⟨a6, m6, c6, rfl, s6, b6⟩
        have R6 : Hid _ := R5.out.next b6
        go_wp2_with fail
        refine hK.out _ _ (s4_of R6.out.box) (fun hX => ?_)
        clear hK K9 hHeld
        have hHeld := hX
        clear hX
        try simp only [Act.put, List.setIfInBounds_toArray, List.set_cons_zero, List.set_cons_succ]
        have PQ : Hid (Pv w6 (.agg #[.bool true, .slice a5 m5 c5, .slice a6 m6 c6, .slice none 0 0]) ⟨true, insAt ks 0 key, insAt vs 0 val, []⟩) := Pv.mk' (s5.below b6) s6 (Sl.empty _) (fun k hk => by simp at hk)
        refine take2 rfl (i := 12) (v := (.agg #[.bool true, .slice a5 m5 c5, .slice a6 m6 c6, .slice none 0 0])) (d := 45) rfl rfl (by kernel_rfl) (by kernel_rfl) (by kernel_rfl) (fun _ _ _ h => h) (Or.inl ⟨by rfl, ?_⟩) hHeld ?_
        · (intro W hW; (try dsimp only at hW); go_simp)
        try simp only [Act.put, List.setIfInBounds_toArray, List.set_cons_zero, List.set_cons_succ]
        have X : Hid _ := R6.out.fin (q := ⟨true, insAt ks 0 key, insAt vs 0 val, []⟩) PQ.out
        unfold st4 at X
        simp only at X
        obtain ⟨r0, r1, r2, r3⟩ := R6.out.res.b4
        simp only [zeroP] at r0
        have rz := R6.out.res.fz
        refine wpAnyH_ready (rs := [13]) (by kernel_rfl) (by simp) ?_
        refine cons2 rfl rfl (fun K9 hK => ?_)
        go_simp
        refine hK.out _ _ (s4_of X.out.2.2.2) (fun hX => ?_)
        clear hK K9 hHeld hX r0 r1 r2 r3 rz
        try simp only [Act.put, List.setIfInBounds_toArray, List.set_cons_zero, List.set_cons_succ]
        refine wpAnyH_done (by kernel_rfl) ?_ _
        generalize ((((w6.setCell ⟨w.heap.size + 1, 0, none⟩ (.bool true)).setCell ⟨w.heap.size + 1, 1, none⟩ (.slice a5 m5 c5)).setCell ⟨w.heap.size + 1, 2, none⟩ (.slice a6 m6 c6)).setCell ⟨w.heap.size + 1, 3, none⟩ (.slice none 0 0)) = W8 at *
        obtain ⟨⟨t0, t1, t2, t3⟩, PV, BL, _⟩ := X.out
        go_wp2
        rw [EQ.out]
        exact bodyPost_ret (v := .agg #[.bool true, .slice a5 m5 c5, .slice a6 m6 c6, .slice none 0 0]) (by simp [results, Try.results25, go_sem, t0, t1, t2, t3]) rfl ⟨⟨_, rfl, PV⟩, BL⟩
    · obtain ⟨P, hP⟩ : ∃ P, N = P + 1 := ⟨N - 1, by omega⟩
      have PK : Hid (P < kn) := by have := LL.out; show _ < _; omega
      have NE : Hid (kAt ks P ≠ key) := fun e => by
        have := of_decide_eq_false PF
        exact this ⟨by omega, by rw [hP, Nat.add_sub_cancel]; exact e⟩
      have pk : (P : Int) < (kn : Int) := by have := PK.out; omega
      have cN : (0 : Int) < (N : Int) := by omega
      have dN : (N : Int) - 1 = (P : Int) := by omega
      have dN' : 0 < N := by omega
      clear hP PF c0 pl
      obtain ⟨kb, ko, rfl, _⟩ := (HH.out w (Below.refl _ _)).1.at (by have := PK.out; omega)
      go_enter Try.func25, Try.ntmps25
      go_upto_region 1 with fail
      generalize (w.alloc (.cells #[.bool true, .slice (some ⟨kb, ko, none⟩) kn kc, .slice va kn vc, .slice ia im ic] 35)).alloc (.cells #[.bool false, .slice none 0 0, .slice none 0 0, .slice none 0 0] 35) = W0 at *
      have x0 := C0.out.box.a0
      have x1 := C0.out.box.a1
      have x2 := C0.out.box.a2
      have x3 := C0.out.box.a3
      go_wp2_with fail
      refine Calls.mono (KP.out W0 C0.out.bel) ?_
      rintro e w1 ⟨rfl, b1⟩
      clear x0 x1 x2 x3 KP
      have R1 : Hid _ := C0.out.next b1
      have x0 := R1.out.box.a0
      have x1 := R1.out.box.a1
      have x2 := R1.out.box.a2
      have x3 := R1.out.box.a3
      have e1 : w1.cell? ⟨kb, ko + P, none⟩ = some (.string (kAt ks P)) := (HH.out w1 R1.out.bel).1.str PK.out
      have q3 : ((kAt ks P).toList == key.toList) = false := by rw [toL_eq]; exact decide_eq_false NE.out
      generalize kAt ks P = s at *
      go_upto_region 4 with fail
      clear x0 x1 x2 x3 e1 q3
      refine wp_region_held_drew (S := (fun W => W.cell? ⟨w.heap.size, 0, none⟩ = some (.bool true) ∧ W.cell? ⟨w.heap.size, 1, none⟩ = some (.slice (some ⟨kb, ko, none⟩) kn kc) ∧ W.cell? ⟨w.heap.size, 2, none⟩ = some (.slice va kn vc) ∧ W.cell? ⟨w.heap.size, 3, none⟩ = some (.slice ia im ic))) (by kernel_rfl) (s4_of (R1.out.next (Below.refl _ _).drew).box) (fun hHeld => ?_)
      refine take2 rfl (i := 0) (v := .pointer (some ⟨w.heap.size, 1, none⟩)) (d := 33) rfl rfl (by kernel_rfl) (by kernel_rfl) (by kernel_rfl) (fun _ _ _ h => h) (Or.inl ⟨by rfl, ?_⟩) hHeld ?_
      · (intro W hW; (try dsimp only at hW); go_simp)
      try simp only [Act.put, List.setIfInBounds_toArray, List.set_cons_zero, List.set_cons_succ]
      refine take2 rfl (i := 1) (v := .slice (some ⟨kb, ko, none⟩) kn kc) (d := 34) rfl rfl (by kernel_rfl) (by kernel_rfl) (by kernel_rfl) (fun _ _ _ h => h) (Or.inl ⟨by rfl, ?_⟩) hHeld ?_
      · (intro W hW; (try dsimp only at hW); go_simp)
      try simp only [Act.put, List.setIfInBounds_toArray, List.set_cons_zero, List.set_cons_succ]
      refine take2 rfl (i := 2) (v := .int .i64 (N : Nat)) (d := 35) rfl rfl (by kernel_rfl) (by kernel_rfl) (by kernel_rfl) (fun _ _ _ h => h) (Or.inl ⟨by rfl, ?_⟩) hHeld ?_
      · (intro W hW; (try dsimp only at hW); go_simp)
      try simp only [Act.put, List.setIfInBounds_toArray, List.set_cons_zero, List.set_cons_succ]
      refine take2 rfl (i := 3) (v := .string key) (d := 36) rfl rfl (by kernel_rfl) (by kernel_rfl) (by kernel_rfl) (fun _ _ _ h => h) (Or.inl ⟨by rfl, ?_⟩) hHeld ?_
      · (intro W hW; (try dsimp only at hW); go_simp)
      try simp only [Act.put, List.setIfInBounds_toArray, List.set_cons_zero, List.set_cons_succ]
      refine take2 rfl (i := 6) (v := .pointer (some ⟨w.heap.size, 2, none⟩)) (d := 39) rfl rfl (by kernel_rfl) (by kernel_rfl) (by kernel_rfl) (fun _ _ _ h => h) (Or.inl ⟨by rfl, ?_⟩) hHeld ?_
      · (intro W hW; (try dsimp only at hW); go_simp)
      try simp only [Act.put, List.setIfInBounds_toArray, List.set_cons_zero, List.set_cons_succ]
      refine take2 rfl (i := 7) (v := .slice va kn vc) (d := 40) rfl rfl (by kernel_rfl) (by kernel_rfl) (by kernel_rfl) (fun _ _ _ h => h) (Or.inl ⟨by rfl, ?_⟩) hHeld ?_
      · (intro W hW; (try dsimp only at hW); go_simp)
      try simp only [Act.put, List.setIfInBounds_toArray, List.set_cons_zero, List.set_cons_succ]
      refine take2 rfl (i := 8) (v := .int .i64 (N : Nat)) (d := 41) rfl rfl (by kernel_rfl) (by kernel_rfl) (by kernel_rfl) (fun _ _ _ h => h) (Or.inl ⟨by rfl, ?_⟩) hHeld ?_
      · (intro W hW; (try dsimp only at hW); go_simp)
      try simp only [Act.put, List.setIfInBounds_toArray, List.set_cons_zero, List.set_cons_succ]
      refine take2 rfl (i := 9) (v := .string val) (d := 42) rfl rfl (by kernel_rfl) (by kernel_rfl) (by kernel_rfl) (fun _ _ _ h => h) (Or.inl ⟨by rfl, ?_⟩) hHeld ?_
      · (intro W hW; (try dsimp only at hW); go_simp)
      try simp only [Act.put, List.setIfInBounds_toArray, List.set_cons_zero, List.set_cons_succ]
      have R2 : Hid _ := R1.out.next (Below.refl w1.heap.size w1).drew
      generalize w1.drew = wz at *
      refine wpAnyH_ready (rs := [4, 10]) (by kernel_rfl) (by simp) ?_
      refine cons22 rfl rfl rfl (fun K9 hK => ?_) (fun K9 hK => ?_)
      · go_simp
        have Z3 : Hid _ := And.intro (allocB wz (.cells #[.string key] 9)) (sl_one wz (.string key) rfl 9)
        have R3 : Hid _ := R2.out.next Z3.out.1
        refine hK.out _ _ (s4_of R3.out.box) (fun hX => ?_)
        clear hK K9 hHeld
        have hHeld := hX
        clear hX
        try simp only [Act.put, List.setIfInBounds_toArray, List.set_cons_zero, List.set_cons_succ]
        generalize wz.alloc (.cells #[.string key] 9) = w3 at *
        refine wpAnyH_ready (rs := [5, 10]) (by kernel_rfl) (by simp) ?_
        refine cons22 rfl rfl rfl (fun K9 hK => ?_) (fun K9 hK => ?_)
        · go_simp
          go_at_call 52
          refine Calls.mono (kcut_ins _ kn kc ks N key _ _ (HH.out _ R3.out.bel).1 Z3.out.2 NL.out (by omega)) ?_
          rintro e w4 ⟨a4, m4, c4, rfl, s4, b4⟩
          have R4 : Hid _ := R3.out.next b4
          go_wp2_with fail
          refine hK.out _ _ (s4_of R4.out.box) (fun hX => ?_)
          clear hK K9 hHeld
          have hHeld := hX
          clear hX
          try simp only [Act.put, List.setIfInBounds_toArray, List.set_cons_zero, List.set_cons_succ]
          refine wpAnyH_ready (rs := [10]) (by kernel_rfl) (by simp) ?_
          refine cons2 rfl rfl (fun K9 hK => ?_)
          go_simp
          have Z5 : Hid _ := And.intro (allocB w4 (.cells #[.string val] 9)) (sl_one w4 (.string val) rfl 9)
          have R5 : Hid _ := R4.out.next Z5.out.1
          refine hK.out _ _ (s4_of R5.out.box) (fun hX => ?_)
          clear hK K9 hHeld
          have hHeld := hX
          clear hX
          try simp only [Act.put, List.setIfInBounds_toArray, List.set_cons_zero, List.set_cons_succ]
          generalize w4.alloc (.cells #[.string val] 9) = w5 at *
          refine wpAnyH_ready (rs := [11]) (by kernel_rfl) (by simp) ?_
          refine cons2 rfl rfl (fun K9 hK => ?_)
          go_simp
          go_at_call 52
          refine Calls.mono (kcut_ins va kn vc vs N val _ _ (HH.out _ R5.out.bel).2 Z5.out.2 NL.out (by omega)) ?_
          rintro e w6 ⟨a6, m6, c6, rfl, s6, b6⟩
          have R6 : Hid _ := R5.out.next b6
          go_wp2_with fail
          refine hK.out _ _ (s4_of R6.out.box) (fun hX => ?_)
          clear hK K9 hHeld
          have hHeld := hX
          clear hX
          try simp only [Act.put, List.setIfInBounds_toArray, List.set_cons_zero, List.set_cons_succ]
          have PQ : Hid (Pv w6 (.agg #[.bool true, .slice a4 m4 c4, .slice a6 m6 c6, .slice none 0 0]) ⟨true, insAt ks N key, insAt vs N val, []⟩) := Pv.mk' ((s4.below Z5.out.1).below b6) s6 (Sl.empty _) (fun k hk => by simp at hk)
          refine take2 rfl (i := 12) (v := (.agg #[.bool true, .slice a4 m4 c4, .slice a6 m6 c6, .slice none 0 0])) (d := 45) rfl rfl (by kernel_rfl) (by kernel_rfl) (by kernel_rfl) (fun _ _ _ h => h) (Or.inl ⟨by rfl, ?_⟩) hHeld ?_
          · (intro W hW; (try dsimp only at hW); go_simp)
          try simp only [Act.put, List.setIfInBounds_toArray, List.set_cons_zero, List.set_cons_succ]
          have X : Hid _ := R6.out.fin (q := ⟨true, insAt ks N key, insAt vs N val, []⟩) PQ.out
          unfold st4 at X
          simp only at X
          obtain ⟨r0, r1, r2, r3⟩ := R6.out.res.b4
          simp only [zeroP] at r0
          have rz := R6.out.res.fz
          refine wpAnyH_ready (rs := [13]) (by kernel_rfl) (by simp) ?_
          refine cons2 rfl rfl (fun K9 hK => ?_)
          go_simp
          refine hK.out _ _ (s4_of X.out.2.2.2) (fun hX => ?_)
          clear hK K9 hHeld hX r0 r1 r2 r3 rz
          try simp only [Act.put, List.setIfInBounds_toArray, List.set_cons_zero, List.set_cons_succ]
          refine wpAnyH_done (by kernel_rfl) ?_ _
          generalize ((((w6.setCell ⟨w.heap.size + 1, 0, none⟩ (.bool true)).setCell ⟨w.heap.size + 1, 1, none⟩ (.slice a4 m4 c4)).setCell ⟨w.heap.size + 1, 2, none⟩ (.slice a6 m6 c6)).setCell ⟨w.heap.size + 1, 3, none⟩ (.slice none 0 0)) = W8 at *
          obtain ⟨⟨t0, t1, t2, t3⟩, PV, BL, _⟩ := X.out
          go_wp2
          rw [EQ.out]
          exact bodyPost_ret (v := .agg #[.bool true, .slice a4 m4 c4, .slice a6 m6 c6, .slice none 0 0]) (by simp [results, Try.results25, go_sem, t0, t1, t2, t3]) rfl ⟨⟨_, rfl, PV⟩, BL⟩
        · go_simp
          have Z4 : Hid _ := And.intro (allocB w3 (.cells #[.string val] 9)) (sl_one w3 (.string val) rfl 9)
          have R4 : Hid _ := R3.out.next Z4.out.1
          refine hK.out _ _ (s4_of R4.out.box) (fun hX => ?_)
          clear hK K9 hHeld
          have hHeld := hX
          clear hX
          try simp only [Act.put, List.setIfInBounds_toArray, List.set_cons_zero, List.set_cons_succ]
          generalize w3.alloc (.cells #[.string val] 9) = w4 at *
          refine wpAnyH_ready (rs := [5]) (by kernel_rfl) (by simp) ?_
          refine cons2 rfl rfl (fun K9 hK => ?_)
          go_simp
          go_at_call 52
          refine Calls.mono (kcut_ins _ kn kc ks N key _ _ (HH.out _ R4.out.bel).1 (Z3.out.2.below Z4.out.1) NL.out (by omega)) ?_
          rintro e w5 ⟨a5, m5, c5, rfl, s5, b5⟩
          have R5 : Hid _ := R4.out.next b5
          go_wp2_with fail
          refine hK.out _ _ (s4_of R5.out.box) (fun hX => ?_)
          clear hK K9 hHeld
          have hHeld := hX
          clear hX
          try simp only [Act.put, List.setIfInBounds_toArray, List.set_cons_zero, List.set_cons_succ]
          refine wpAnyH_ready (rs := [11]) (by kernel_rfl) (by simp) ?_
          refine cons2 rfl rfl (fun K9 hK => ?_)
          go_simp
          go_at_call 52
          refine Calls.mono (kcut_ins va kn vc vs N val _ _ (HH.out _ R5.out.bel).2 (Z4.out.2.below b5) NL.out (by omega)) ?_
          rintro e w6 ⟨a6, m6, c6, rfl, s6, b6⟩
          have R6 : Hid _ := R5.out.next b6
          go_wp2_with fail
          refine hK.out _ _ (s4_of R6.out.box) (fun hX => ?_)
          clear hK K9 hHeld
          have hHeld := hX
          clear hX
          try simp only [Act.put, List.setIfInBounds_toArray, List.set_cons_zero, List.set_cons_succ]
          have PQ : Hid (Pv w6 (.agg #[.bool true, .slice a5 m5 c5, .slice a6 m6 c6, .slice none 0 0]) ⟨true, insAt ks N key, insAt vs N val, []⟩) := Pv.mk' (s5.below b6) s6 (Sl.empty _) (fun k hk => by simp at hk)
          refine take2 rfl (i := 12) (v := (.agg #[.bool true, .slice a5 m5 c5, .slice a6 m6 c6, .slice none 0 0])) (d := 45) rfl rfl (by kernel_rfl) (by kernel_rfl) (by kernel_rfl) (fun _ _ _ h => h) (Or.inl ⟨by rfl, ?_⟩) hHeld ?_
          · (intro W hW; (try dsimp only at hW); go_simp)
          try simp only [Act.put, List.setIfInBounds_toArray, List.set_cons_zero, List.set_cons_succ]
          have X : Hid _ := R6.out.fin (q := ⟨true, insAt ks N key, insAt vs N val, []⟩) PQ.out
          unfold st4 at X
          simp only at X
          obtain ⟨r0, r1, r2, r3⟩ := R6.out.res.b4
          simp only [zeroP] at r0
          have rz := R6.out.res.fz
          refine wpAnyH_ready (rs := [13]) (by kernel_rfl) (by simp) ?_
          refine cons2 rfl rfl (fun K9 hK => ?_)
          go_simp
          refine hK.out _ _ (s4_of X.out.2.2.2) (fun hX => ?_)
          clear hK K9 hHeld hX r0 r1 r2 r3 rz
          try simp only [Act.put, List.setIfInBounds_toArray, List.set_cons_zero, List.set_cons_succ]
          refine wpAnyH_done (by kernel_rfl) ?_ _
          generalize ((((w6.setCell ⟨w.heap.size + 1, 0, none⟩ (.bool true)).setCell ⟨w.heap.size + 1, 1, none⟩ (.slice a5 m5 c5)).setCell ⟨w.heap.size + 1, 2, none⟩ (.slice a6 m6 c6)).setCell ⟨w.heap.size + 1, 3, none⟩ (.slice none 0 0)) = W8 at *
          obtain ⟨⟨t0, t1, t2, t3⟩, PV, BL, _⟩ := X.out
          go_wp2
          rw [EQ.out]
          exact bodyPost_ret (v := .agg #[.bool true, .slice a5 m5 c5, .slice a6 m6 c6, .slice none 0 0]) (by simp [results, Try.results25, go_sem, t0, t1, t2, t3]) rfl ⟨⟨_, rfl, PV⟩, BL⟩
      · go_simp
        have Z3 : Hid _ := And.intro (allocB wz (.cells #[.string val] 9)) (sl_one wz (.string val) rfl 9)
        have R3 : Hid _ := R2.out.next Z3.out.1
        refine hK.out _ _ (s4_of R3.out.box) (fun hX => ?_)
        clear hK K9 hHeld
        have hHeld := hX
        clear hX
        try simp only [Act.put, List.setIfInBounds_toArray, List.set_cons_zero, List.set_cons_succ]
        generalize wz.alloc (.cells #[.string val] 9) = w3 at *
        refine wpAnyH_ready (rs := [4]) (by kernel_rfl) (by simp) ?_
        refine cons2 rfl rfl (fun K9 hK => ?_)
        go_simp
        have Z4 : Hid _ := And.intro (allocB w3 (.cells #[.string key] 9)) (sl_one w3 (.string key) rfl 9)
        have R4 : Hid _ := R3.out.next Z4.out.1
        refine hK.out _ _ (s4_of R4.out.box) (fun hX => ?_)
        clear hK K9 hHeld
        have hHeld := hX
        clear hX
        try simp only [Act.put, List.setIfInBounds_toArray, List.set_cons_zero, List.set_cons_succ]
        generalize w3.alloc (.cells #[.string key] 9) = w4 at *
        refine wpAnyH_ready (rs := [5]) (by kernel_rfl) (by simp) ?_
        refine cons2 rfl rfl (fun K9 hK => ?_)
        go_simp
        go_at_call 52
        refine Calls.mono (kcut_ins _ kn kc ks N key _ _ (HH.out _ R4.out.bel).1 Z4.out.2 NL.out (by omega)) ?_
        rintro e w5 ⟨a5, m5, c5, rfl, s5, b5⟩
        have R5 : Hid _ := R4.out.next b5
        go_wp2_with fail
        refine hK.out _ _ (s4_of R5.out.box) (fun hX => ?_)
        clear hK K9 hHeld
        have hHeld := hX
        clear hX
        try simp only [Act.put, List.setIfInBounds_toArray, List.set_cons_zero, List.set_cons_succ]
        refine wpAnyH_ready (rs := [11]) (by kernel_rfl) (by simp) ?_
        refine cons2 rfl rfl (fun K9 hK => ?_)
        go_simp
        go_at_call 52
        refine Calls.mono (kcut_ins va kn vc vs N val _ _ (HH.out _ R5.out.bel).2 ((Z3.out.2.below Z4.out.1).below b5) NL.out (by omega)) ?_
        rintro e w6 ⟨a6, m6, c6, rfl, s6, b6⟩
        have R6 : Hid _ := R5.out.next b6
        go_wp2_with fail
        refine hK.out _ _ (s4_of R6.out.box) (fun hX => ?_)
        clear hK K9 hHeld
        have hHeld := hX
        clear hX
        try simp only [Act.put, List.setIfInBounds_toArray, List.set_cons_zero, List.set_cons_succ]
        have PQ : Hid (Pv w6 (.agg #[.bool true, .slice a5 m5 c5, .slice a6 m6 c6, .slice none 0 0]) ⟨true, insAt ks N key, insAt vs N val, []⟩) := Pv.mk' (s5.below b6) s6 (Sl.empty _) (fun k hk => by simp at hk)
        refine take2 rfl (i := 12) (v := (.agg #[.bool true, .slice a5 m5 c5, .slice a6 m6 c6, .slice none 0 0])) (d := 45) rfl rfl (by kernel_rfl) (by kernel_rfl) (by kernel_rfl) (fun _ _ _ h => h) (Or.inl ⟨by rfl, ?_⟩) hHeld ?_
        · (intro W hW; (try dsimp only at hW); go_simp)
        try simp only [Act.put, List.setIfInBounds_toArray, List.set_cons_zero, List.set_cons_succ]
        have X : Hid _ := R6.out.fin (q := ⟨true, insAt ks N key, insAt vs N val, []⟩) PQ.out
        unfold st4 at X
        simp only at X
        obtain ⟨r0, r1, r2, r3⟩ := R6.out.res.b4
        simp only [zeroP] at r0
        have rz := R6.out.res.fz
        refine wpAnyH_ready (rs := [13]) (by kernel_rfl) (by simp) ?_
        refine cons2 rfl rfl (fun K9 hK => ?_)
        go_simp
        refine hK.out _ _ (s4_of X.out.2.2.2) (fun hX => ?_)
        clear hK K9 hHeld hX r0 r1 r2 r3 rz
        try simp only [Act.put, List.setIfInBounds_toArray, List.set_cons_zero, List.set_cons_succ]
        refine wpAnyH_done (by kernel_rfl) ?_ _
        generalize ((((w6.setCell ⟨w.heap.size + 1, 0, none⟩ (.bool true)).setCell ⟨w.heap.size + 1, 1, none⟩ (.slice a5 m5 c5)).setCell ⟨w.heap.size + 1, 2, none⟩ (.slice a6 m6 c6)).setCell ⟨w.heap.size + 1, 3, none⟩ (.slice none 0 0)) = W8 at *
        obtain ⟨⟨t0, t1, t2, t3⟩, PV, BL, _⟩ := X.out
        go_wp2
        rw [EQ.out]
        exact bodyPost_ret (v := .agg #[.bool true, .slice a5 m5 c5, .slice a6 m6 c6, .slice none 0 0]) (by simp [results, Try.results25, go_sem, t0, t1, t2, t3]) rfl ⟨⟨_, rfl, PV⟩, BL⟩

end Go.Proofs.Ytfedcghkohfhlaa
