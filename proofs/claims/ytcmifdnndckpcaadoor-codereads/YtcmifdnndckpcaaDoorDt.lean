/- The laws' own look that they are awake. -/
import Derived.Test.YtcmifdnndckpcaaDoorDs
import Derived.Test.YtcmifdnndckpcaaDoorDq
namespace Go.Proofs.YtcmifdnndckpcaaDoor
open Go.RowKit
set_option linter.unusedVariables false
set_option linter.unusedSimpArgs false

theorem mid_bytes (p : PP) : mid (bytesOf p) = bodyOf p := by
  unfold mid bytesOf
  have h4 : (le4 (sum (fisc ++ bodyOf p))).length = 4 := rfl
  have hf : fisc.length = 4 := rfl
  rw [show (fisc ++ bodyOf p ++ le4 (sum (fisc ++ bodyOf p))).length - 4 = (fisc ++ bodyOf p).length by rw [List.length_append, h4]; omega]
  rw [List.take_left' rfl]
  rw [List.drop_left' hf]
theorem rdP_bytes {p : PP} (h : (cProg false).ok p) : rdP (bytesOf p) = p := by
  unfold rdP
  rw [mid_bytes]
  have := (cProg_good false).back p [] h
  rw [List.append_nil] at this
  show ((cProg false).rd ((cProg false).en p, false)).1 = p
  rw [this]
theorem bytes_len (p : PP) : (bytesOf p).length = (bodyOf p).length + 8 := by
  unfold bytesOf
  rw [List.length_append, List.length_append, show fisc.length = 4 from rfl, show (le4 (sum (fisc ++ bodyOf p))).length = 4 from rfl]
  omega
theorem body_pos (p : PP) : 1 ≤ (bodyOf p).length := (cProg_good false).pos p
/-- A program's bytes are read as it. -/
theorem decP_back {p : PP} (h : (cProg false).ok p) : decP (bytesOf p) = some p ∧ errP (bytesOf p) = 0 := by
  have e := rdP_bytes h
  have l := bytes_len p
  have := decP_yes (bs := bytesOf p) (by omega) (by rw [e])
  rw [e] at this
  exact this
theorem bytes_inj {p q : PP} (h : (cProg false).ok p) (k : (cProg false).ok q) (e : bytesOf p = bytesOf q) : p = q := by rw [← rdP_bytes h, ← rdP_bytes k, e]
theorem bytes_bys {p : PP} (h : (cProg false).ok p) : Bys (bytesOf p) := by
  unfold bytesOf
  exact (Bys.app (Bys.mk (by decide) (by decide) (Bys.mk (by decide) (by decide) (Bys.mk (by decide) (by decide) (Bys.mk (by decide) (by decide) Bys.nil)))) ((cProg_good false).bys p h)).app (le4_bys _)
theorem okI (n : Int) (h : -1 ≤ n ∧ n ≤ 100) : cI.ok n := ⟨by omega, by omega⟩
theorem small_ok : (cProg false).ok smallP := by
  have k : ∀ n : Int, -1 ≤ n ∧ n ≤ 100 → cI.ok n := okI
  refine ⟨⟨fun x h => ?_, by decide⟩, ⟨fun x h => by simp [smallP] at h, by decide⟩, ⟨fun x h => by simp [smallP] at h, by decide⟩, ⟨fun x h => ?_, by decide⟩, ⟨fun x h => by simp [smallP] at h, by decide⟩, ⟨fun x h => ?_, by decide⟩, ⟨fun x h => ?_, by decide⟩⟩
  · simp [smallP] at h; subst h; exact ⟨k _ (by decide), k _ (by decide)⟩
  · simp [smallP] at h; subst h; exact k _ (by decide)
  · simp [smallP] at h; subst h; exact ⟨Bys.mk (by decide) (by decide) Bys.nil, by decide⟩
  · simp [smallP] at h
    rcases h with rfl | rfl | rfl | rfl <;> exact ⟨k _ (by decide), k _ (by decide), k _ (by decide), k _ (by decide)⟩
theorem zero_ok : (cProg false).ok zP :=
  ⟨⟨fun x h => by simp [zP] at h, by decide⟩, ⟨fun x h => by simp [zP] at h, by decide⟩, ⟨fun x h => by simp [zP] at h, by decide⟩, ⟨fun x h => by simp [zP] at h, by decide⟩, ⟨fun x h => by simp [zP] at h, by decide⟩, ⟨fun x h => by simp [zP] at h, by decide⟩, ⟨fun x h => by simp [zP] at h, by decide⟩⟩
theorem small_ne : bytesOf smallP ≠ bytesOf zP := fun e => by
  have := congrArg Prod.fst (bytes_inj small_ok zero_ok e)
  simp [smallP, zP] at this
theorem small_len : (bodyOf smallP).length ≤ 1000 := by decide +kernel
theorem zero_len : (bodyOf zP).length ≤ 1000 := by decide +kernel
theorem show_add : shP 4 3 0 0 = ⟨#[97, 100, 100, 32, 51]⟩ := by
  have e : itS 3 = ⟨#[51]⟩ := by
    unfold itS Lib.itoa
    rw [if_neg (by decide), Lib.decDigits, dif_pos (by decide)]
    rfl
  unfold shP
  rw [e]
  decide +kernel
/-- The tables that the program reads. -/
structure Tt (w : World) : Prop where
  sm : Tab w
  rt : RT w
  pw : Pt w
theorem Tt.next {w w' : World} (h : Tt w) (b : Below w.heap.size w w') : Tt w' := ⟨h.sm.next b, h.rt.next b, h.pw.next b⟩
set_option maxRecDepth 100000 in
set_option maxHeartbeats 16000000 in
theorem awake_any (w : World) (hT : Tt w) : Calls Tryd.prog 7 #[] w fun e w' => e = .returned (.bool true) ∧ Below w.heap.size w w' := by
  have T := hid hT
  have K1 := hid (small_any w)
  clear hT
  go_enter Tryd.func7, Tryd.ntmps7
  go_wp2_with fail
  (with_reducible refine Calls.mono K1.out ?_)
  rintro e w1 ⟨v1, rfl, p1, b1⟩
  have T1 := hid (T.out.next b1)
  have K2 := hid (code_Encode_any w1 v1 smallP p1 (by have := small_len; omega) T1.out.sm)
  have B1 := hid b1
  clear p1 b1 K1
  go_wp2_with fail
  (with_reducible refine Calls.mono K2.out ?_)
  rintro e w2 ⟨⟨v2, rfl, o2⟩, b2⟩
  obtain ⟨ba, bc, rfl, by2, -, -⟩ := o2.by
  have bl : (bytesOf smallP).length = (bodyOf smallP).length + 8 := bytes_len _
  have bl2 := small_len
  have bl3 := body_pos smallP
  obtain ⟨g, o, hg, -⟩ := by2.cell
  obtain rfl := hg (by omega)
  have BY := hid by2
  obtain ⟨n, hn⟩ : ∃ n, n = (bytesOf smallP).length := ⟨_, rfl⟩
  rw [← hn] at BY ⊢
  have n8 : 8 < n := by omega
  have nb : n ≤ 1008 := by omega
  have T2 := hid (T1.out.next b2)
  have B2 := hid (nextB B1.out b2)
  have KD := hid (code_Decode_any w2 (some ⟨g, o, none⟩) n bc (bytesOf smallP) BY.out (by omega) T2.out.sm)
  clear o2 b2 by2 K2 hg bl bl2 bl3 hn T T1 B1
  go_wp2_with fail
  (with_reducible refine Calls.mono KD.out ?_)
  rintro e w3 h3
  obtain ⟨v3, rfl, p3, b3⟩ := h3
  rw [(decP_back small_ok).1] at p3
  rw [(decP_back small_ok).2]
  have P3 := hid (show Pw w3 v3 smallP from p3)
  obtain ⟨a0, m0, c0, a1, m1, c1, a2, m2, c2, a3, m3, c3, a4, m4, c4, a5, m5, c5, a6, m6, c6, ev, -⟩ := p3.ex
  subst ev
  have B3 := hid (nextB B2.out b3)
  have T3 := hid (T2.out.next b3)
  have Y3 := hid (BY.out.below b3)
  clear p3 b3 KD B2 T2 BY
  have X4 := hid (Bx.new w3 #[.slice a0 m0 c0, .slice a1 m1 c1, .slice a2 m2 c2, .slice a3 m3 c3, .slice a4 m4 c4, .slice a5 m5 c5, .slice a6 m6 c6] 29 (by decide))
  have B4 := hid (nextB B3.out (allocB w3 (.cells #[.slice a0 m0 c0, .slice a1 m1 c1, .slice a2 m2 c2, .slice a3 m3 c3, .slice a4 m4 c4, .slice a5 m5 c5, .slice a6 m6 c6] 29)))
  have T4 := hid (T3.out.next (allocB w3 (.cells #[.slice a0 m0 c0, .slice a1 m1 c1, .slice a2 m2 c2, .slice a3 m3 c3, .slice a4 m4 c4, .slice a5 m5 c5, .slice a6 m6 c6] 29)))
  have Y4 := hid (Y3.out.below (allocB w3 (.cells #[.slice a0 m0 c0, .slice a1 m1 c1, .slice a2 m2 c2, .slice a3 m3 c3, .slice a4 m4 c4, .slice a5 m5 c5, .slice a6 m6 c6] 29)))
  have P4 := hid (P3.out.next (allocB w3 (.cells #[.slice a0 m0 c0, .slice a1 m1 c1, .slice a2 m2 c2, .slice a3 m3 c3, .slice a4 m4 c4, .slice a5 m5 c5, .slice a6 m6 c6] 29)))
  clear B3 T3 Y3 P3
  go_upto_region 3 with fail
  generalize World.alloc w3 _ = w4 at *
  generalize w3.heap.size = bx at *
  have HF := Y4.out.fits
  have HM := Y4.out.max
  have S4 := hid (show ∀ W, Below w4.heap.size w4 W → (convert 38 9 (.slice (some ⟨g, o, none⟩) 4 bc)).run Tryd.prog W = .ok (.string ⟨#[70, 73, 83, 67]⟩) W from fun W hW => by
    have y := (Y4.out.below hW).take (k := 4) (by omega)
    have := y.str
    rw [show (bytesOf smallP).take 4 = [70, 73, 83, 67] from by unfold bytesOf; rw [List.append_assoc]; rfl] at this
    exact this)
  refine wp_region_held_drew (S := fun W => Below w4.heap.size w4 W) (by kernel_rfl) (Below.refl _ _).drew (fun hHeld => ?_)
  have D4 := hid (show Below w4.heap.size w4 w4.drew from (Below.refl _ _).drew)
  generalize w4.drew = wz at *
  refine tk 0 (.int .i64 0) 11 rfl rfl rfl (by kernel_rfl) (fun _ _ _ h => h) (by rfl) hHeld ?_ ?_
  · (intro W hW; (try dsimp only at hW); go_simp)
  try simp only [Act.put, List.setIfInBounds_toArray, List.set_cons_zero, List.set_cons_succ]
  refine tk 1 (.bool true) 12 rfl rfl rfl (by kernel_rfl) (fun _ _ _ h => h) (by rfl) hHeld ?_ ?_
  · (intro W hW; (try dsimp only at hW); go_simp)
  try simp only [Act.put, List.setIfInBounds_toArray, List.set_cons_zero, List.set_cons_succ]
  refine tk 2 (.bool true) 13 rfl rfl rfl (by kernel_rfl) (fun _ _ _ h => h) (by rfl) hHeld ?_ ?_
  · (intro W hW; (try dsimp only at hW); go_simp)
  try simp only [Act.put, List.setIfInBounds_toArray, List.set_cons_zero, List.set_cons_succ]
  refine tk 3 (.slice (some ⟨g, o, none⟩) n bc) 14 rfl rfl rfl (by kernel_rfl) (fun _ _ _ h => h) (by rfl) hHeld ?_ ?_
  · (intro W hW; (try dsimp only at hW); go_simp)
  try simp only [Act.put, List.setIfInBounds_toArray, List.set_cons_zero, List.set_cons_succ]
  refine tk 4 (.int .i64 (n : Nat)) 15 rfl rfl rfl (by kernel_rfl) (fun _ _ _ h => h) (by rfl) hHeld ?_ ?_
  · (intro W hW; (try dsimp only at hW); go_simp)
  try simp only [Act.put, List.setIfInBounds_toArray, List.set_cons_zero, List.set_cons_succ]
  refine tk 5 (.bool true) 16 rfl rfl rfl (by kernel_rfl) (fun _ _ _ h => h) (by rfl) hHeld ?_ ?_
  · (intro W hW; (try dsimp only at hW); have q8 : (8 : Int) < (n : Int) := (by omega); go_simp)
  try simp only [Act.put, List.setIfInBounds_toArray, List.set_cons_zero, List.set_cons_succ]
  refine tk 6 (.bool true) 17 rfl rfl rfl (by kernel_rfl) (fun _ _ _ h => h) (by rfl) hHeld ?_ ?_
  · (intro W hW; (try dsimp only at hW); go_simp)
  try simp only [Act.put, List.setIfInBounds_toArray, List.set_cons_zero, List.set_cons_succ]
  refine tk 7 (.bool true) 18 rfl rfl rfl (by kernel_rfl) (fun _ _ _ h => h) (by rfl) hHeld ?_ ?_
  · (intro W hW; (try dsimp only at hW); go_simp)
  try simp only [Act.put, List.setIfInBounds_toArray, List.set_cons_zero, List.set_cons_succ]
  refine tk 8 (.slice (some ⟨g, o, none⟩) n bc) 19 rfl rfl rfl (by kernel_rfl) (fun _ _ _ h => h) (by rfl) hHeld ?_ ?_
  · (intro W hW; (try dsimp only at hW); go_simp)
  try simp only [Act.put, List.setIfInBounds_toArray, List.set_cons_zero, List.set_cons_succ]
  refine tk 9 (.slice (some ⟨g, o, none⟩) 4 bc) 20 rfl rfl rfl (by kernel_rfl) (fun _ _ _ h => h) (by rfl) hHeld ?_ ?_
  · (intro W hW; (try dsimp only at hW); have q4 : (4 : Int) ≤ (bc : Int) := (by omega); go_simp)
  try simp only [Act.put, List.setIfInBounds_toArray, List.set_cons_zero, List.set_cons_succ]
  refine tk 10 (.string ⟨#[70, 73, 83, 67]⟩) 21 rfl rfl rfl (by kernel_rfl) (fun _ _ _ h => h) (by rfl) hHeld ?_ ?_
  · (intro W hW; (try dsimp only at hW); have q0 := S4.out W hW; go_simp)
  try simp only [Act.put, List.setIfInBounds_toArray, List.set_cons_zero, List.set_cons_succ]
  refine tk 11 (.bool true) 22 rfl rfl rfl (by kernel_rfl) (fun _ _ _ h => h) (by rfl) hHeld ?_ ?_
  · (intro W hW; (try dsimp only at hW); go_simp)
  try simp only [Act.put, List.setIfInBounds_toArray, List.set_cons_zero, List.set_cons_succ]
  refine tk 12 (.bool true) 23 rfl rfl rfl (by kernel_rfl) (fun _ _ _ h => h) (by rfl) hHeld ?_ ?_
  · (intro W hW; (try dsimp only at hW); go_simp)
  try simp only [Act.put, List.setIfInBounds_toArray, List.set_cons_zero, List.set_cons_succ]
  refine tk 13 (.bool true) 24 rfl rfl rfl (by kernel_rfl) (fun _ _ _ h => h) (by rfl) hHeld ?_ ?_
  · (intro W hW; (try dsimp only at hW); go_simp)
  try simp only [Act.put, List.setIfInBounds_toArray, List.set_cons_zero, List.set_cons_succ]
  refine tk 14 (.agg #[.slice a0 m0 c0, .slice a1 m1 c1, .slice a2 m2 c2, .slice a3 m3 c3, .slice a4 m4 c4, .slice a5 m5 c5, .slice a6 m6 c6]) 25 rfl rfl rfl (by kernel_rfl) (fun _ _ _ h => h) (by rfl) hHeld ?_ ?_
  · (intro W hW; (try dsimp only at hW); have x0 := (X4.out.next hW).cell 0 _ rfl; have x1 := (X4.out.next hW).cell 1 _ rfl; have x2 := (X4.out.next hW).cell 2 _ rfl; have x3 := (X4.out.next hW).cell 3 _ rfl; have x4 := (X4.out.next hW).cell 4 _ rfl; have x5 := (X4.out.next hW).cell 5 _ rfl; have x6 := (X4.out.next hW).cell 6 _ rfl; go_simp)
  try simp only [Act.put, List.setIfInBounds_toArray, List.set_cons_zero, List.set_cons_succ]
  refine wpAnyH_ready (rs := [15]) (by kernel_rfl) (by simp) ?_
  refine cons2 rfl rfl (fun K9 hK => ?_)
  go_simp
  refine Calls.mono (small_any wz) ?_
  rintro e w5 ⟨v5, rfl, p5, b5⟩
  have P5 := hid p5
  have D5 := hid (nextB D4.out b5)
  clear p5 b5
  go_wp2_with fail
  refine hK.out _ _ D5.out (fun hX => ?_)
  clear hK K9 hHeld
  have hHeld := hX
  clear hX
  try simp only [Act.put, List.setIfInBounds_toArray, List.set_cons_zero, List.set_cons_succ]
  refine wpAnyH_ready (rs := [16]) (by kernel_rfl) (by simp) ?_
  refine cons2 rfl rfl (fun K9 hK => ?_)
  go_simp
  refine Calls.mono (code_Same_any w5 _ _ smallP smallP (P4.out.next D5.out) P5.out (by have := small_len; omega) (by have := small_len; omega) (T4.out.next D5.out).sm) ?_
  rintro e w6 ⟨rfl, b6⟩
  have D6 := hid (nextB D5.out b6)
  rw [show decide (bytesOf smallP = bytesOf smallP) = true by simp]
  clear b6
  go_wp2_with fail
  refine hK.out _ _ D6.out (fun hX => ?_)
  clear hK K9 hHeld
  have hHeld := hX
  clear hX
  try simp only [Act.put, List.setIfInBounds_toArray, List.set_cons_zero, List.set_cons_succ]
  refine tk 17 (.bool true) 28 rfl rfl rfl (by kernel_rfl) (fun _ _ _ h => h) (by rfl) hHeld ?_ ?_
  · (intro W hW; (try dsimp only at hW); go_simp)
  try simp only [Act.put, List.setIfInBounds_toArray, List.set_cons_zero, List.set_cons_succ]
  refine tk 18 (.bool true) 29 rfl rfl rfl (by kernel_rfl) (fun _ _ _ h => h) (by rfl) hHeld ?_ ?_
  · (intro W hW; (try dsimp only at hW); go_simp)
  try simp only [Act.put, List.setIfInBounds_toArray, List.set_cons_zero, List.set_cons_succ]
  refine tk 19 (.agg #[.slice a0 m0 c0, .slice a1 m1 c1, .slice a2 m2 c2, .slice a3 m3 c3, .slice a4 m4 c4, .slice a5 m5 c5, .slice a6 m6 c6]) 30 rfl rfl rfl (by kernel_rfl) (fun _ _ _ h => h) (by rfl) hHeld ?_ ?_
  · (intro W hW; (try dsimp only at hW); have x0 := (X4.out.next hW).cell 0 _ rfl; have x1 := (X4.out.next hW).cell 1 _ rfl; have x2 := (X4.out.next hW).cell 2 _ rfl; have x3 := (X4.out.next hW).cell 3 _ rfl; have x4 := (X4.out.next hW).cell 4 _ rfl; have x5 := (X4.out.next hW).cell 5 _ rfl; have x6 := (X4.out.next hW).cell 6 _ rfl; go_simp)
  try simp only [Act.put, List.setIfInBounds_toArray, List.set_cons_zero, List.set_cons_succ]
  refine tk 20 (.agg #[.slice none 0 0, .slice none 0 0, .slice none 0 0, .slice none 0 0, .slice none 0 0, .slice none 0 0, .slice none 0 0]) 31 rfl rfl rfl (by kernel_rfl) (fun _ _ _ h => h) (by rfl) hHeld ?_ ?_
  · (intro W hW; (try dsimp only at hW); go_simp)
  try simp only [Act.put, List.setIfInBounds_toArray, List.set_cons_zero, List.set_cons_succ]
  refine wpAnyH_ready (rs := [21]) (by kernel_rfl) (by simp) ?_
  refine cons2 rfl rfl (fun K9 hK => ?_)
  go_simp
  refine Calls.mono (code_Same_any w6 _ _ smallP zP (P4.out.next D6.out) (Pw.zero _) (by have := small_len; omega) (by have := zero_len; omega) (T4.out.next D6.out).sm) ?_
  rintro e w7 ⟨rfl, b7⟩
  have D7 := hid (nextB D6.out b7)
  rw [show decide (bytesOf smallP = bytesOf zP) = false by simp [small_ne]]
  clear b7
  go_wp2_with fail
  refine hK.out _ _ D7.out (fun hX => ?_)
  clear hK K9 hHeld
  have hHeld := hX
  clear hX
  try simp only [Act.put, List.setIfInBounds_toArray, List.set_cons_zero, List.set_cons_succ]
  refine tk 22 (.bool true) 33 rfl rfl rfl (by kernel_rfl) (fun _ _ _ h => h) (by rfl) hHeld ?_ ?_
  · (intro W hW; (try dsimp only at hW); go_simp)
  try simp only [Act.put, List.setIfInBounds_toArray, List.set_cons_zero, List.set_cons_succ]
  refine tk 23 (.bool true) 34 rfl rfl rfl (by kernel_rfl) (fun _ _ _ h => h) (by rfl) hHeld ?_ ?_
  · (intro W hW; (try dsimp only at hW); go_simp)
  try simp only [Act.put, List.setIfInBounds_toArray, List.set_cons_zero, List.set_cons_succ]
  refine tk 24 (.bool true) 35 rfl rfl rfl (by kernel_rfl) (fun _ _ _ h => h) (by rfl) hHeld ?_ ?_
  · (intro W hW; (try dsimp only at hW); go_simp)
  try simp only [Act.put, List.setIfInBounds_toArray, List.set_cons_zero, List.set_cons_succ]
  refine tk 25 (.agg #[.int .i64 4, .int .i64 3, .int .i64 0, .int .i64 0]) 36 rfl rfl rfl (by kernel_rfl) (fun _ _ _ h => h) (by rfl) hHeld ?_ ?_
  · (intro W hW; (try dsimp only at hW); go_simp)
  try simp only [Act.put, List.setIfInBounds_toArray, List.set_cons_zero, List.set_cons_succ]
  refine wpAnyH_ready (rs := [26]) (by kernel_rfl) (by simp) ?_
  refine cons2 rfl rfl (fun K9 hK => ?_)
  go_simp
  refine Calls.mono (code_Show_any 4 3 0 0 w7 (T4.out.next D7.out).rt (T4.out.next D7.out).pw (okI _ (by decide)) (okI _ (by decide)) (okI _ (by decide))) ?_
  rintro e w8 ⟨rfl, b8⟩
  have D8 := hid (nextB D7.out b8)
  rw [show_add]
  clear b8
  go_wp2_with fail
  refine hK.out _ _ D8.out (fun hX => ?_)
  clear hK K9 hHeld
  have hHeld := hX
  clear hX
  try simp only [Act.put, List.setIfInBounds_toArray, List.set_cons_zero, List.set_cons_succ]
  refine tk 27 (.bool true) 38 rfl rfl rfl (by kernel_rfl) (fun _ _ _ h => h) (by rfl) hHeld ?_ ?_
  · (intro W hW; (try dsimp only at hW); go_simp)
  try simp only [Act.put, List.setIfInBounds_toArray, List.set_cons_zero, List.set_cons_succ]
  refine tk 28 (.bool true) 39 rfl rfl rfl (by kernel_rfl) (fun _ _ _ h => h) (by rfl) hHeld ?_ ?_
  · (intro W hW; (try dsimp only at hW); go_simp)
  try simp only [Act.put, List.setIfInBounds_toArray, List.set_cons_zero, List.set_cons_succ]
  refine tk 29 (.bool true) 40 rfl rfl rfl (by kernel_rfl) (fun _ _ _ h => h) (by rfl) hHeld ?_ ?_
  · (intro W hW; (try dsimp only at hW); go_simp)
  try simp only [Act.put, List.setIfInBounds_toArray, List.set_cons_zero, List.set_cons_succ]
  refine wpAnyH_ready (rs := [30]) (by kernel_rfl) (by simp) ?_
  refine cons2 rfl rfl (fun K9 hK => ?_)
  go_simp
  refine Calls.mono (code_Name_any 23 w8 (T4.out.next D8.out).rt) ?_
  rintro e w9 ⟨rfl, b9⟩
  have D9 := hid (nextB D8.out b9)
  rw [show opN 23 = ⟨#[104, 97, 108, 116]⟩ from by decide]
  clear b9
  go_wp2_with fail
  refine hK.out _ _ D9.out (fun hX => ?_)
  clear hK K9 hHeld
  have hHeld := hX
  clear hX
  try simp only [Act.put, List.setIfInBounds_toArray, List.set_cons_zero, List.set_cons_succ]
  refine tk 31 (.bool true) 42 rfl rfl rfl (by kernel_rfl) (fun _ _ _ h => h) (by rfl) hHeld ?_ ?_
  · (intro W hW; (try dsimp only at hW); go_simp)
  try simp only [Act.put, List.setIfInBounds_toArray, List.set_cons_zero, List.set_cons_succ]
  refine tk 32 (.bool true) 43 rfl rfl rfl (by kernel_rfl) (fun _ _ _ h => h) (by rfl) hHeld ?_ ?_
  · (intro W hW; (try dsimp only at hW); go_simp)
  try simp only [Act.put, List.setIfInBounds_toArray, List.set_cons_zero, List.set_cons_succ]
  refine tk 33 (.bool true) 0 rfl rfl rfl (by kernel_rfl) (fun _ _ _ h => h) (by rfl) hHeld ?_ ?_
  · (intro W hW; (try dsimp only at hW); go_simp)
  try simp only [Act.put, List.setIfInBounds_toArray, List.set_cons_zero, List.set_cons_succ]
  refine wpAnyH_done (by kernel_rfl) ?_ _
  go_wp2_with fail
  go_ret
  exact ⟨rfl, nextB B4.out D9.out⟩

end Go.Proofs.YtcmifdnndckpcaaDoor
