/- The reference's Split of a branch, and of a page that is too small. -/
import Derived.Test.YtfedcghkohfhlaaZm
import Derived.Test.YtfedcghkohfhlaaU2
namespace Go.Proofs.Ytfedcghkohfhlaa
open Go.RowKit
set_option linter.unusedVariables false
set_option linter.unusedSimpArgs false

set_option maxRecDepth 100000 in
set_option maxHeartbeats 8000000 in
theorem kSplit_branch (v : Value) (p : Pg) (w : World) (h : Pv w v p) (f : Bd p) (hl : p.leaf = false) (hv : p.vals = []) (hk : p.kids.length = p.keys.length + 1) (h3n : 3 ≤ p.keys.length) :
    Calls Try.prog 21 #[v] w fun e w' => NewT w w' e (brA p) (kAt p.keys (p.keys.length / 2)) (brB p) := by
  have PK := h.kid
  obtain ⟨ka, kn, kc, va, vn, vc, ia, im, ic, rfl, h1, h2, h3⟩ := h.ex
  obtain ⟨lf, ks, vs, is⟩ := p
  unfold brA brB
  simp only at h1 h2 h3 hl hv hk h3n PK ⊢
  subst hl hv
  have l1 := h1.slen
  have l3 := h3.klen
  have b1 := f.keys
  simp only at b1
  obtain ⟨kb, ko, rfl, _⟩ := h1.at (by omega)
  obtain ⟨ib, io, rfl, _⟩ := h3.at (by omega)
  have fk := h1.fits
  have fi := h3.fits
  obtain ⟨A, hA⟩ : ∃ A, A = ks.length / 2 := ⟨_, rfl⟩
  rw [← hA]
  obtain ⟨J, hJ⟩ : ∃ J, J = A + 1 := ⟨_, rfl⟩
  rw [← hJ]
  have n1 : kn ≤ 90000 := by omega
  have n2 : im ≤ 90001 := by omega
  have n3 : A < kn := by omega
  have n4 : J < im := by omega
  have n5 : J ≤ kn := by omega
  have n6 : A ≤ 45000 := by omega
  have n7 : J ≤ 45001 := by omega
  have dA : (kn : Int) / 2 = (A : Int) := by omega
  have dJ : (A : Int) + 1 = (J : Int) := by omega
  have dM : ¬ (im : Int) < (J : Int) := by omega
  have dM2 : min (J : Int) (im : Int) = (J : Int) := by omega
  have wA : IntKind.i64.wrap (A : Int) = (A : Int) := by rw [IntKind.wrap_i64]; omega
  have wJ : IntKind.i64.wrap (J : Int) = (J : Int) := by rw [IntKind.wrap_i64]; omega
  have cA : (A : Int) < (kn : Int) := by omega
  have U1 := cut_upto Try.underlying23 strInfo kb ko kn kc A _ rfl (by omega)
  have U2 := cut_upto Try.underlying24 u64Info ib io im ic J _ rfl (by omega)
  obtain ⟨O1, U3, ho1⟩ := cut_from Try.underlying23 strInfo kb ko kn kc J _ rfl (by omega) fk
  obtain ⟨O2, U4, ho2⟩ := cut_from Try.underlying24 u64Info ib io im ic J _ rfl (by omega) fi
  have HH : Hid (∀ W, Below w.heap.size w W → (Sl W (some ⟨kb, ko, none⟩) A kc (sv (ks.take A)) ∧ Sl W (some ⟨ib, io, none⟩) J ic (kv (is.take J))) ∧ (Sl W (some ⟨kb, O1, none⟩) (kn - J) (kc - J) (sv (ks.drop J)) ∧ Sl W (some ⟨ib, O2, none⟩) (im - J) (ic - J) (kv (is.drop J)))) := fun W b => by
    rw [← sv_take, ← kv_take, ← sv_drop, ← kv_drop]
    exact ⟨⟨(h1.below b).take (by omega), (h3.below b).take (by omega)⟩, (h1.below b).drop (by omega) ho1, (h3.below b).drop (by omega) ho2⟩
  generalize hr1 : kn - J = r1 at *
  generalize hr2 : im - J = r2 at *
  have r1b : r1 ≤ 90000 := by omega
  have r2b : r2 ≤ 90001 := by omega
  clear hr1 hr2
  generalize kc - J = q1 at *
  generalize ic - J = q2 at *
  have KD1 : Hid (∀ k ∈ is.take J, k < 18446744073709551616) := fun k hk => PK k (List.mem_of_mem_take hk)
  have KD2 : Hid (∀ k ∈ is.drop J, k < 18446744073709551616) := fun k hk => PK k (List.mem_of_mem_drop hk)
  have KC : Hid (∀ W, Below w.heap.size w W → W.cell? ⟨kb, ko + A, none⟩ = some (.string (kAt ks A))) := fun W b => (h1.below b).str (by omega)
  have C0 : Hid (R2z w (.bool false) (.slice (some ⟨kb, ko, none⟩) kn kc) (.slice va vn vc) (.slice (some ⟨ib, io, none⟩) im ic) (((w.alloc (.cells #[.bool false, .slice (some ⟨kb, ko, none⟩) kn kc, .slice va vn vc, .slice (some ⟨ib, io, none⟩) im ic] 35)).alloc (.cells #[.bool false, .slice none 0 0, .slice none 0 0, .slice none 0 0] 35)).alloc (.cells #[.bool false, .slice none 0 0, .slice none 0 0, .slice none 0 0] 35))) := R2z.new w _ _ _ _ _ _ _
  have c3 : (3 : Int) ≤ (kn : Int) := by omega
  clear h h1 h2 h3 f l1 l3 hk h3n PK hA hJ ho1 ho2 b1 fk fi n3 n5
  go_enter Try.func21, Try.ntmps21
  go_upto_region 1 with fail
  generalize ((w.alloc (.cells #[.bool false, .slice (some ⟨kb, ko, none⟩) kn kc, .slice va vn vc, .slice (some ⟨ib, io, none⟩) im ic] 35)).alloc (.cells #[.bool false, .slice none 0 0, .slice none 0 0, .slice none 0 0] 35)).alloc (.cells #[.bool false, .slice none 0 0, .slice none 0 0, .slice none 0 0] 35) = wp at *
  obtain ⟨x0, x1, x2, x3⟩ := C0.out.box
  go_upto_region 10 with fail
  clear x0 x1 x2 x3
  have RZ : Hid _ := C0.out.next (Below.refl wp.heap.size wp).drew
  have PX : Hid (Pv wp.drew (.agg #[.bool false, .slice (some ⟨kb, ko, none⟩) A kc, .slice none 0 0, .slice (some ⟨ib, io, none⟩) J ic]) ⟨false, ks.take A, [], is.take J⟩) := Pv.mk' (HH.out _ RZ.out.bel).1.1 (Sl.empty _) (HH.out _ RZ.out.bel).1.2 KD1.out
  have PY : Hid (Pv wp.drew (.agg #[.bool false, .slice (some ⟨kb, O1, none⟩) r1 q1, .slice none 0 0, .slice (some ⟨ib, O2, none⟩) r2 q2]) ⟨false, ks.drop J, [], is.drop J⟩) := Pv.mk' (HH.out _ RZ.out.bel).2.1 (Sl.empty _) (HH.out _ RZ.out.bel).2.2 KD2.out
  have G1 : Hid _ := RZ.out.ra.put (q := ⟨false, ks.take A, [], is.take J⟩) PX.out
  have RZ1 : Hid _ := RZ.out.rb.far RZ.out.ra G1.out.2 (by omega)
  have BX1 : Hid _ := RZ.out.box.grown G1.out.2 (fun e => by injection e with e; omega)
  have BL1 : Hid _ := RZ.out.bel.grown G1.out.2 RZ.out.bel.size (fun k hk => by cases hk; omega)
  have X : Hid _ := RZ.out.fin (q := ⟨false, ks.take A, [], is.take J⟩) (q' := ⟨false, ks.drop J, [], is.drop J⟩) PX.out PY.out
  have SX : Hid (∀ W, B4 W w.heap.size (.bool false) (.slice (some ⟨kb, ko, none⟩) kn kc) (.slice va vn vc) (.slice (some ⟨ib, io, none⟩) im ic) → Below w.heap.size w W → W.cell? ⟨w.heap.size, 0, none⟩ = some (.bool false) ∧ W.cell? ⟨w.heap.size, 1, none⟩ = some (.slice (some ⟨kb, ko, none⟩) kn kc) ∧ W.cell? ⟨w.heap.size, 2, none⟩ = some (.slice va vn vc) ∧ W.cell? ⟨w.heap.size, 3, none⟩ = some (.slice (some ⟨ib, io, none⟩) im ic) ∧ W.cell? ⟨kb, ko + A, none⟩ = some (.string (kAt ks A))) := fun W q b => ⟨q.a0, q.a1, q.a2, q.a3, KC.out W b⟩
  have S50 := SX.out _ RZ.out.box RZ.out.bel
  have SA1 : Hid _ := SX.out _ BX1.out BL1.out
  have SA2 : Hid _ := SX.out _ X.out.box X.out.bel
  clear BX1 BL1 G1 SX
  unfold st4 at X SA1 SA2 RZ1
  simp only at X SA1 SA2 RZ1
  refine wp_region_held_drew (S := (fun W => W.cell? ⟨w.heap.size, 0, none⟩ = some (.bool false) ∧ W.cell? ⟨w.heap.size, 1, none⟩ = some (.slice (some ⟨kb, ko, none⟩) kn kc) ∧ W.cell? ⟨w.heap.size, 2, none⟩ = some (.slice va vn vc) ∧ W.cell? ⟨w.heap.size, 3, none⟩ = some (.slice (some ⟨ib, io, none⟩) im ic) ∧ W.cell? ⟨kb, ko + A, none⟩ = some (.string (kAt ks A)))) (by kernel_rfl) S50 (fun hHeld => ?_)
  generalize wp.drew = wz at *
  refine take2 rfl (i := 0) (v := .pointer (some ⟨w.heap.size, 1, none⟩)) (d := 86) rfl rfl (by kernel_rfl) (by kernel_rfl) (by kernel_rfl) (fun _ _ _ h => h) (Or.inl ⟨by rfl, ?_⟩) hHeld ?_
  · (intro W hW; (try dsimp only at hW); go_simp)
  try simp only [Act.put, List.setIfInBounds_toArray, List.set_cons_zero, List.set_cons_succ]
  refine take2 rfl (i := 1) (v := .slice (some ⟨kb, ko, none⟩) kn kc) (d := 87) rfl rfl (by kernel_rfl) (by kernel_rfl) (by kernel_rfl) (fun _ _ _ h => h) (Or.inl ⟨by rfl, ?_⟩) hHeld ?_
  · (intro W hW; (try dsimp only at hW); go_simp)
  try simp only [Act.put, List.setIfInBounds_toArray, List.set_cons_zero, List.set_cons_succ]
  refine take2 rfl (i := 2) (v := .int .i64 (A : Nat)) (d := 88) rfl rfl (by kernel_rfl) (by kernel_rfl) (by kernel_rfl) (fun _ _ _ h => h) (Or.inl ⟨by rfl, ?_⟩) hHeld ?_
  · (intro W hW; (try dsimp only at hW); go_simp)
  try simp only [Act.put, List.setIfInBounds_toArray, List.set_cons_zero, List.set_cons_succ]
  refine take2 rfl (i := 3) (v := .slice (some ⟨kb, ko, none⟩) A kc) (d := 89) rfl rfl (by kernel_rfl) (by kernel_rfl) (by kernel_rfl) (fun _ _ _ h => h) (Or.inl ⟨by rfl, ?_⟩) hHeld ?_
  · (intro W hW; (try dsimp only at hW); go_simp)
  try simp only [Act.put, List.setIfInBounds_toArray, List.set_cons_zero, List.set_cons_succ]
  refine take2 rfl (i := 4) (v := .pointer (some ⟨w.heap.size, 3, none⟩)) (d := 90) rfl rfl (by kernel_rfl) (by kernel_rfl) (by kernel_rfl) (fun _ _ _ h => h) (Or.inl ⟨by rfl, ?_⟩) hHeld ?_
  · (intro W hW; (try dsimp only at hW); go_simp)
  try simp only [Act.put, List.setIfInBounds_toArray, List.set_cons_zero, List.set_cons_succ]
  refine take2 rfl (i := 5) (v := .slice (some ⟨ib, io, none⟩) im ic) (d := 91) rfl rfl (by kernel_rfl) (by kernel_rfl) (by kernel_rfl) (fun _ _ _ h => h) (Or.inl ⟨by rfl, ?_⟩) hHeld ?_
  · (intro W hW; (try dsimp only at hW); go_simp)
  try simp only [Act.put, List.setIfInBounds_toArray, List.set_cons_zero, List.set_cons_succ]
  refine take2 rfl (i := 6) (v := .int .i64 (A : Nat)) (d := 92) rfl rfl (by kernel_rfl) (by kernel_rfl) (by kernel_rfl) (fun _ _ _ h => h) (Or.inl ⟨by rfl, ?_⟩) hHeld ?_
  · (intro W hW; (try dsimp only at hW); go_simp)
  try simp only [Act.put, List.setIfInBounds_toArray, List.set_cons_zero, List.set_cons_succ]
  refine take2 rfl (i := 7) (v := .int .i64 (J : Nat)) (d := 93) rfl rfl (by kernel_rfl) (by kernel_rfl) (by kernel_rfl) (fun _ _ _ h => h) (Or.inl ⟨by rfl, ?_⟩) hHeld ?_
  · (intro W hW; (try dsimp only at hW); go_simp)
  try simp only [Act.put, List.setIfInBounds_toArray, List.set_cons_zero, List.set_cons_succ]
  refine take2 rfl (i := 8) (v := .slice (some ⟨ib, io, none⟩) J ic) (d := 94) rfl rfl (by kernel_rfl) (by kernel_rfl) (by kernel_rfl) (fun _ _ _ h => h) (Or.inl ⟨by rfl, ?_⟩) hHeld ?_
  · (intro W hW; (try dsimp only at hW); go_simp)
  try simp only [Act.put, List.setIfInBounds_toArray, List.set_cons_zero, List.set_cons_succ]
  refine take2 rfl (i := 9) (v := (.agg #[.bool false, .slice (some ⟨kb, ko, none⟩) A kc, .slice none 0 0, .slice (some ⟨ib, io, none⟩) J ic])) (d := 95) rfl rfl (by kernel_rfl) (by kernel_rfl) (by kernel_rfl) (fun _ _ _ h => h) (Or.inl ⟨by rfl, ?_⟩) hHeld ?_
  · (intro W hW; (try dsimp only at hW); go_simp)
  try simp only [Act.put, List.setIfInBounds_toArray, List.set_cons_zero, List.set_cons_succ]
  refine take2 rfl (i := 10) (v := .pointer (some ⟨w.heap.size, 1, none⟩)) (d := 96) rfl rfl (by kernel_rfl) (by kernel_rfl) (by kernel_rfl) (fun _ _ _ h => h) (Or.inl ⟨by rfl, ?_⟩) hHeld ?_
  · (intro W hW; (try dsimp only at hW); go_simp)
  try simp only [Act.put, List.setIfInBounds_toArray, List.set_cons_zero, List.set_cons_succ]
  refine take2 rfl (i := 11) (v := .slice (some ⟨kb, ko, none⟩) kn kc) (d := 97) rfl rfl (by kernel_rfl) (by kernel_rfl) (by kernel_rfl) (fun _ _ _ h => h) (Or.inl ⟨by rfl, ?_⟩) hHeld ?_
  · (intro W hW; (try dsimp only at hW); go_simp)
  try simp only [Act.put, List.setIfInBounds_toArray, List.set_cons_zero, List.set_cons_succ]
  refine take2 rfl (i := 12) (v := .int .i64 (A : Nat)) (d := 98) rfl rfl (by kernel_rfl) (by kernel_rfl) (by kernel_rfl) (fun _ _ _ h => h) (Or.inl ⟨by rfl, ?_⟩) hHeld ?_
  · (intro W hW; (try dsimp only at hW); go_simp)
  try simp only [Act.put, List.setIfInBounds_toArray, List.set_cons_zero, List.set_cons_succ]
  refine take2 rfl (i := 13) (v := .pointer (some ⟨kb, ko + A, none⟩)) (d := 99) rfl rfl (by kernel_rfl) (by kernel_rfl) (by kernel_rfl) (fun _ _ _ h => h) (Or.inl ⟨by rfl, ?_⟩) hHeld ?_
  · (intro W hW; (try dsimp only at hW); go_simp)
  try simp only [Act.put, List.setIfInBounds_toArray, List.set_cons_zero, List.set_cons_succ]
  refine take2 rfl (i := 14) (v := .string (kAt ks A)) (d := 100) rfl rfl (by kernel_rfl) (by kernel_rfl) (by kernel_rfl) (fun _ _ _ h => h) (Or.inl ⟨by rfl, ?_⟩) hHeld ?_
  · (intro W hW; (try dsimp only at hW); go_simp)
  try simp only [Act.put, List.setIfInBounds_toArray, List.set_cons_zero, List.set_cons_succ]
  refine take2 rfl (i := 15) (v := .pointer (some ⟨w.heap.size, 1, none⟩)) (d := 101) rfl rfl (by kernel_rfl) (by kernel_rfl) (by kernel_rfl) (fun _ _ _ h => h) (Or.inl ⟨by rfl, ?_⟩) hHeld ?_
  · (intro W hW; (try dsimp only at hW); go_simp)
  try simp only [Act.put, List.setIfInBounds_toArray, List.set_cons_zero, List.set_cons_succ]
  refine take2 rfl (i := 16) (v := .slice (some ⟨kb, ko, none⟩) kn kc) (d := 102) rfl rfl (by kernel_rfl) (by kernel_rfl) (by kernel_rfl) (fun _ _ _ h => h) (Or.inl ⟨by rfl, ?_⟩) hHeld ?_
  · (intro W hW; (try dsimp only at hW); go_simp)
  try simp only [Act.put, List.setIfInBounds_toArray, List.set_cons_zero, List.set_cons_succ]
  refine take2 rfl (i := 17) (v := .int .i64 (A : Nat)) (d := 103) rfl rfl (by kernel_rfl) (by kernel_rfl) (by kernel_rfl) (fun _ _ _ h => h) (Or.inl ⟨by rfl, ?_⟩) hHeld ?_
  · (intro W hW; (try dsimp only at hW); go_simp)
  try simp only [Act.put, List.setIfInBounds_toArray, List.set_cons_zero, List.set_cons_succ]
  refine take2 rfl (i := 18) (v := .int .i64 (J : Nat)) (d := 104) rfl rfl (by kernel_rfl) (by kernel_rfl) (by kernel_rfl) (fun _ _ _ h => h) (Or.inl ⟨by rfl, ?_⟩) hHeld ?_
  · (intro W hW; (try dsimp only at hW); go_simp)
  try simp only [Act.put, List.setIfInBounds_toArray, List.set_cons_zero, List.set_cons_succ]
  refine take2 rfl (i := 19) (v := .slice (some ⟨kb, O1, none⟩) r1 q1) (d := 105) rfl rfl (by kernel_rfl) (by kernel_rfl) (by kernel_rfl) (fun _ _ _ h => h) (Or.inl ⟨by rfl, ?_⟩) hHeld ?_
  · (intro W hW; (try dsimp only at hW); go_simp)
  try simp only [Act.put, List.setIfInBounds_toArray, List.set_cons_zero, List.set_cons_succ]
  refine take2 rfl (i := 20) (v := .pointer (some ⟨w.heap.size, 3, none⟩)) (d := 106) rfl rfl (by kernel_rfl) (by kernel_rfl) (by kernel_rfl) (fun _ _ _ h => h) (Or.inl ⟨by rfl, ?_⟩) hHeld ?_
  · (intro W hW; (try dsimp only at hW); go_simp)
  try simp only [Act.put, List.setIfInBounds_toArray, List.set_cons_zero, List.set_cons_succ]
  refine take2 rfl (i := 21) (v := .slice (some ⟨ib, io, none⟩) im ic) (d := 107) rfl rfl (by kernel_rfl) (by kernel_rfl) (by kernel_rfl) (fun _ _ _ h => h) (Or.inl ⟨by rfl, ?_⟩) hHeld ?_
  · (intro W hW; (try dsimp only at hW); go_simp)
  try simp only [Act.put, List.setIfInBounds_toArray, List.set_cons_zero, List.set_cons_succ]
  refine take2 rfl (i := 22) (v := .int .i64 (A : Nat)) (d := 108) rfl rfl (by kernel_rfl) (by kernel_rfl) (by kernel_rfl) (fun _ _ _ h => h) (Or.inl ⟨by rfl, ?_⟩) hHeld ?_
  · (intro W hW; (try dsimp only at hW); go_simp)
  try simp only [Act.put, List.setIfInBounds_toArray, List.set_cons_zero, List.set_cons_succ]
  refine take2 rfl (i := 23) (v := .int .i64 (J : Nat)) (d := 109) rfl rfl (by kernel_rfl) (by kernel_rfl) (by kernel_rfl) (fun _ _ _ h => h) (Or.inl ⟨by rfl, ?_⟩) hHeld ?_
  · (intro W hW; (try dsimp only at hW); go_simp)
  try simp only [Act.put, List.setIfInBounds_toArray, List.set_cons_zero, List.set_cons_succ]
  refine take2 rfl (i := 24) (v := .slice (some ⟨ib, O2, none⟩) r2 q2) (d := 110) rfl rfl (by kernel_rfl) (by kernel_rfl) (by kernel_rfl) (fun _ _ _ h => h) (Or.inl ⟨by rfl, ?_⟩) hHeld ?_
  · (intro W hW; (try dsimp only at hW); go_simp)
  try simp only [Act.put, List.setIfInBounds_toArray, List.set_cons_zero, List.set_cons_succ]
  refine take2 rfl (i := 25) (v := (.agg #[.bool false, .slice (some ⟨kb, O1, none⟩) r1 q1, .slice none 0 0, .slice (some ⟨ib, O2, none⟩) r2 q2])) (d := 111) rfl rfl (by kernel_rfl) (by kernel_rfl) (by kernel_rfl) (fun _ _ _ h => h) (Or.inl ⟨by rfl, ?_⟩) hHeld ?_
  · (intro W hW; (try dsimp only at hW); go_simp)
  try simp only [Act.put, List.setIfInBounds_toArray, List.set_cons_zero, List.set_cons_succ]
  obtain ⟨r0, r1', r2', r3'⟩ := RZ.out.ra.b4
  simp only [zeroP] at r0
  have rz := RZ.out.ra.fz
  refine wpAnyH_ready (rs := [26]) (by kernel_rfl) (by simp) ?_
  refine cons2 rfl rfl (fun K9 hK => ?_)
  go_simp
  refine hK.out _ _ SA1.out (fun hX => ?_)
  clear hK K9 hHeld r0 r1' r2' r3' rz
  have hHeld := hX
  clear hX
  try simp only [Act.put, List.setIfInBounds_toArray, List.set_cons_zero, List.set_cons_succ]
  refine take2 rfl (i := 27) (v := .string (kAt ks A)) (d := 3) rfl rfl (by kernel_rfl) (by kernel_rfl) (by kernel_rfl) (fun _ _ _ h => h) (Or.inl ⟨by rfl, ?_⟩) hHeld ?_
  · (intro W hW; (try dsimp only at hW); go_simp)
  try simp only [Act.put, List.setIfInBounds_toArray, List.set_cons_zero, List.set_cons_succ]
  obtain ⟨r0, r1', r2', r3'⟩ := RZ1.out.b4
  simp only [zeroP] at r0
  have rz := RZ1.out.fz
  refine wpAnyH_ready (rs := [28]) (by kernel_rfl) (by simp) ?_
  refine cons2 rfl rfl (fun K9 hK => ?_)
  go_simp
  refine hK.out _ _ SA2.out (fun hX => ?_)
  clear hK K9 hHeld r0 r1' r2' r3' rz
  try simp only [Act.put, List.setIfInBounds_toArray, List.set_cons_zero, List.set_cons_succ]
  refine wpAnyH_done (by kernel_rfl) ?_ _
  generalize ((((((((wz.setCell ⟨w.heap.size + 1, 0, none⟩ (.bool false)).setCell ⟨w.heap.size + 1, 1, none⟩ (.slice (some ⟨kb, ko, none⟩) A kc)).setCell ⟨w.heap.size + 1, 2, none⟩ (.slice none 0 0)).setCell ⟨w.heap.size + 1, 3, none⟩ (.slice (some ⟨ib, io, none⟩) J ic)).setCell ⟨w.heap.size + 1 + 1, 0, none⟩ (.bool false)).setCell ⟨w.heap.size + 1 + 1, 1, none⟩ (.slice (some ⟨kb, O1, none⟩) r1 q1)).setCell ⟨w.heap.size + 1 + 1, 2, none⟩ (.slice none 0 0)).setCell ⟨w.heap.size + 1 + 1, 3, none⟩ (.slice (some ⟨ib, O2, none⟩) r2 q2)) = W8 at *
  have Y1 : Hid _ := X.out.p1
  have Y2 : Hid _ := X.out.p2
  have BL : Hid _ := X.out.bel
  obtain ⟨t0, t1, t2, t3⟩ := X.out.ra
  obtain ⟨t4, t5, t6, t7⟩ := X.out.rb
  go_wp2
  exact bodyPost_ret (v := .tuple #[.agg #[.bool false, .slice (some ⟨kb, ko, none⟩) A kc, .slice none 0 0, .slice (some ⟨ib, io, none⟩) J ic], .string (kAt ks A), .agg #[.bool false, .slice (some ⟨kb, O1, none⟩) r1 q1, .slice none 0 0, .slice (some ⟨ib, O2, none⟩) r2 q2]]) (by simp [results, Try.results21, go_sem, t0, t1, t2, t3, t4, t5, t6, t7]) rfl ⟨_, _, rfl, Y1.out, Y2.out, BL.out⟩

set_option maxRecDepth 100000 in
set_option maxHeartbeats 4000000 in
theorem kSplit_small (v : Value) (p : Pg) (w : World) (h : Pv w v p) (f : Bd p) (hs : p.keys.length < 2 ∨ p.leaf = false ∧ p.keys.length < 3) :
    Calls Try.prog 21 #[v] w fun e w' => NewT w w' e p ByteArray.empty zeroP := by
  have HV : Hid (∀ W, Below w.heap.size w W → Pv W v p) := fun W b => h.below b
  obtain ⟨ka, kn, kc, va, vn, vc, ia, im, ic, rfl, h1, h2, h3⟩ := h.ex
  have l1 := h1.slen
  rw [l1] at hs
  have n1 : kn < 3 := by omega
  generalize hlf : p.leaf = lf at *
  have PL : Hid _ := hlf
  clear h h1 h2 h3 f l1 hlf
  cases lf with
  | true =>
    have c2 : ¬ (2 : Int) ≤ (kn : Int) := by
      rcases hs with q | q
      · omega
      · cases q.1
    clear hs
    have C0 : Hid (R2z w (.bool true) (.slice ka kn kc) (.slice va vn vc) (.slice ia im ic) (((w.alloc (.cells #[.bool true, .slice ka kn kc, .slice va vn vc, .slice ia im ic] 35)).alloc (.cells #[.bool false, .slice none 0 0, .slice none 0 0, .slice none 0 0] 35)).alloc (.cells #[.bool false, .slice none 0 0, .slice none 0 0, .slice none 0 0] 35))) := R2z.new w _ _ _ _ _ _ _
    go_enter Try.func21, Try.ntmps21
    go_upto_region 1 with fail
    generalize ((w.alloc (.cells #[.bool true, .slice ka kn kc, .slice va vn vc, .slice ia im ic] 35)).alloc (.cells #[.bool false, .slice none 0 0, .slice none 0 0, .slice none 0 0] 35)).alloc (.cells #[.bool false, .slice none 0 0, .slice none 0 0, .slice none 0 0] 35) = w1 at *
    have R1 : Hid _ := C0.out
    clear C0
    obtain ⟨x0, x1, x2, x3⟩ := R1.out.box
    have P1 : Hid _ := HV.out w1 R1.out.bel
    have P2 : Hid _ := pvZ w1
    have lft2 : zeroP.leaf = false := rfl
    have X : Hid _ := R1.out.fin (q := p) (q' := zeroP) (by rw [PL.out]; exact P1.out) P2.out
    unfold st4 at X
    simp only [PL.out, lft2] at X
    obtain ⟨r0, r1, r2, r3⟩ := R1.out.ra.b4
    obtain ⟨s0, s1, s2, s3⟩ := R1.out.rb.b4
    simp only [zeroP] at r0 s0
    have rz := R1.out.ra.fz
    have sz := R1.out.rb.fz
    go_wp2
    clear r0 r1 r2 r3 s0 s1 s2 s3 rz sz x0 x1 x2 x3
    generalize ((((((((w1.setCell ⟨w.heap.size + 1, 0, none⟩ (.bool true)).setCell ⟨w.heap.size + 1, 1, none⟩ (.slice ka kn kc)).setCell ⟨w.heap.size + 1, 2, none⟩ (.slice va vn vc)).setCell ⟨w.heap.size + 1, 3, none⟩ (.slice ia im ic)).setCell ⟨w.heap.size + 1 + 1, 0, none⟩ (.bool false)).setCell ⟨w.heap.size + 1 + 1, 1, none⟩ (.slice none 0 0)).setCell ⟨w.heap.size + 1 + 1, 2, none⟩ (.slice none 0 0)).setCell ⟨w.heap.size + 1 + 1, 3, none⟩ (.slice none 0 0)) = W8 at *
    have Y1 : Hid _ := X.out.p1
    have Y2 : Hid _ := X.out.p2
    have BL : Hid _ := X.out.bel
    obtain ⟨t0, t1, t2, t3⟩ := X.out.ra
    obtain ⟨t4, t5, t6, t7⟩ := X.out.rb
    exact bodyPost_ret (v := .tuple #[.agg #[.bool true, .slice ka kn kc, .slice va vn vc, .slice ia im ic], .string ⟨#[]⟩, .agg #[.bool false, .slice none 0 0, .slice none 0 0, .slice none 0 0]]) (by simp [results, Try.results21, go_sem, t0, t1, t2, t3, t4, t5, t6, t7]) rfl ⟨_, _, rfl, Y1.out, Y2.out, BL.out⟩
  | false =>
    have c3 : ¬ (3 : Int) ≤ (kn : Int) := by omega
    clear hs
    have C0 : Hid (R2z w (.bool false) (.slice ka kn kc) (.slice va vn vc) (.slice ia im ic) (((w.alloc (.cells #[.bool false, .slice ka kn kc, .slice va vn vc, .slice ia im ic] 35)).alloc (.cells #[.bool false, .slice none 0 0, .slice none 0 0, .slice none 0 0] 35)).alloc (.cells #[.bool false, .slice none 0 0, .slice none 0 0, .slice none 0 0] 35))) := R2z.new w _ _ _ _ _ _ _
    go_enter Try.func21, Try.ntmps21
    go_upto_region 1 with fail
    generalize ((w.alloc (.cells #[.bool false, .slice ka kn kc, .slice va vn vc, .slice ia im ic] 35)).alloc (.cells #[.bool false, .slice none 0 0, .slice none 0 0, .slice none 0 0] 35)).alloc (.cells #[.bool false, .slice none 0 0, .slice none 0 0, .slice none 0 0] 35) = w1 at *
    have R1 : Hid _ := C0.out
    clear C0
    obtain ⟨x0, x1, x2, x3⟩ := R1.out.box
    have P1 : Hid _ := HV.out w1 R1.out.bel
    have P2 : Hid _ := pvZ w1
    have lft2 : zeroP.leaf = false := rfl
    have X : Hid _ := R1.out.fin (q := p) (q' := zeroP) (by rw [PL.out]; exact P1.out) P2.out
    unfold st4 at X
    simp only [PL.out, lft2] at X
    obtain ⟨r0, r1, r2, r3⟩ := R1.out.ra.b4
    obtain ⟨s0, s1, s2, s3⟩ := R1.out.rb.b4
    simp only [zeroP] at r0 s0
    have rz := R1.out.ra.fz
    have sz := R1.out.rb.fz
    go_wp2
    clear r0 r1 r2 r3 s0 s1 s2 s3 rz sz x0 x1 x2 x3
    generalize ((((((((w1.setCell ⟨w.heap.size + 1, 0, none⟩ (.bool false)).setCell ⟨w.heap.size + 1, 1, none⟩ (.slice ka kn kc)).setCell ⟨w.heap.size + 1, 2, none⟩ (.slice va vn vc)).setCell ⟨w.heap.size + 1, 3, none⟩ (.slice ia im ic)).setCell ⟨w.heap.size + 1 + 1, 0, none⟩ (.bool false)).setCell ⟨w.heap.size + 1 + 1, 1, none⟩ (.slice none 0 0)).setCell ⟨w.heap.size + 1 + 1, 2, none⟩ (.slice none 0 0)).setCell ⟨w.heap.size + 1 + 1, 3, none⟩ (.slice none 0 0)) = W8 at *
    have Y1 : Hid _ := X.out.p1
    have Y2 : Hid _ := X.out.p2
    have BL : Hid _ := X.out.bel
    obtain ⟨t0, t1, t2, t3⟩ := X.out.ra
    obtain ⟨t4, t5, t6, t7⟩ := X.out.rb
    exact bodyPost_ret (v := .tuple #[.agg #[.bool false, .slice ka kn kc, .slice va vn vc, .slice ia im ic], .string ⟨#[]⟩, .agg #[.bool false, .slice none 0 0, .slice none 0 0, .slice none 0 0]]) (by simp [results, Try.results21, go_sem, t0, t1, t2, t3, t4, t5, t6, t7]) rfl ⟨_, _, rfl, Y1.out, Y2.out, BL.out⟩

end Go.Proofs.Ytfedcghkohfhlaa
