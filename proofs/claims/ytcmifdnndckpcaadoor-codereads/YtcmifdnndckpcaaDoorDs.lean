/- The walk over the laws' 'small'. -/
import Derived.Test.YtcmifdnndckpcaaDoorDr
namespace Go.Proofs.YtcmifdnndckpcaaDoor
open Go.RowKit
set_option linter.unusedVariables false
set_option linter.unusedSimpArgs false

def smallP : PP := ([(2, -1)], [], [], [2], [], [[97]], [(21, 0, 0, 0), (0, 0, 0, 0), (22, 0, 0, 0), (23, 0, 0, 0)])
theorem small_w (w0 : World) : Below w0.heap.size w0 ((((w0.alloc (.cells #[.int .i64 2, .int .i64 (-1), .slice none 0 0] 62)).alloc (.cells #[.int .i64 2] 56)).alloc (.cells #[.string ⟨#[97]⟩] 9)).alloc (.cells #[.int .i64 21, .int .i64 0, .int .i64 0, .int .i64 0, .int .i64 0, .int .i64 0, .int .i64 0, .int .i64 0, .int .i64 22, .int .i64 0, .int .i64 0, .int .i64 0, .int .i64 23, .int .i64 0, .int .i64 0, .int .i64 0] 36)) ∧ Pw ((((w0.alloc (.cells #[.int .i64 2, .int .i64 (-1), .slice none 0 0] 62)).alloc (.cells #[.int .i64 2] 56)).alloc (.cells #[.string ⟨#[97]⟩] 9)).alloc (.cells #[.int .i64 21, .int .i64 0, .int .i64 0, .int .i64 0, .int .i64 0, .int .i64 0, .int .i64 0, .int .i64 0, .int .i64 22, .int .i64 0, .int .i64 0, .int .i64 0, .int .i64 23, .int .i64 0, .int .i64 0, .int .i64 0] 36)) (.agg #[.slice (some ⟨w0.heap.size, 0, none⟩) 1 1, .slice none 0 0, .slice none 0 0, .slice (some ⟨w0.heap.size + 1, 0, none⟩) 1 1, .slice none 0 0, .slice (some ⟨w0.heap.size + 1 + 1, 0, none⟩) 1 1, .slice (some ⟨w0.heap.size + 1 + 1 + 1, 0, none⟩) 4 4]) smallP := by
  have b1 := allocB w0 (.cells #[.int .i64 2, .int .i64 (-1), .slice none 0 0] 62)
  have b2 := allocB (w0.alloc (.cells #[.int .i64 2, .int .i64 (-1), .slice none 0 0] 62)) (.cells #[.int .i64 2] 56)
  have b3 := allocB ((w0.alloc (.cells #[.int .i64 2, .int .i64 (-1), .slice none 0 0] 62)).alloc (.cells #[.int .i64 2] 56)) (.cells #[.string ⟨#[97]⟩] 9)
  have b4 := allocB (((w0.alloc (.cells #[.int .i64 2, .int .i64 (-1), .slice none 0 0] 62)).alloc (.cells #[.int .i64 2] 56)).alloc (.cells #[.string ⟨#[97]⟩] 9)) (.cells #[.int .i64 21, .int .i64 0, .int .i64 0, .int .i64 0, .int .i64 0, .int .i64 0, .int .i64 0, .int .i64 0, .int .i64 22, .int .i64 0, .int .i64 0, .int .i64 0, .int .i64 23, .int .i64 0, .int .i64 0, .int .i64 0] 36)
  have s1 : (w0.alloc (.cells #[.int .i64 2, .int .i64 (-1), .slice none 0 0] 62)).heap.size = w0.heap.size + 1 := by simp
  have s2 : ((w0.alloc (.cells #[.int .i64 2, .int .i64 (-1), .slice none 0 0] 62)).alloc (.cells #[.int .i64 2] 56)).heap.size = w0.heap.size + 1 + 1 := by simp
  have s3 : (((w0.alloc (.cells #[.int .i64 2, .int .i64 (-1), .slice none 0 0] 62)).alloc (.cells #[.int .i64 2] 56)).alloc (.cells #[.string ⟨#[97]⟩] 9)).heap.size = w0.heap.size + 1 + 1 + 1 := by simp
  have v1 : Vw aC 3 (w0.alloc (.cells #[.int .i64 2, .int .i64 (-1), .slice none 0 0] 62)) (some ⟨w0.heap.size, 0, none⟩) 1 [(2, -1)] := ⟨rfl, w0.heap.size, 0, fun _ => rfl, fun i x h => by
    match i, h with
    | 0, h => simp at h; subst h; exact ⟨cells_new w0 [.int .i64 2, .int .i64 (-1), .slice none 0 0] _ 0 _ rfl, cells_new w0 [.int .i64 2, .int .i64 (-1), .slice none 0 0] _ 1 _ rfl, ⟨none, 0, 0, cells_new w0 [.int .i64 2, .int .i64 (-1), .slice none 0 0] _ 2 _ rfl⟩, ⟨by decide, by decide⟩, ⟨by decide, by decide⟩⟩
    | i + 1, h => simp at h⟩
  have v2 : Vw aI 1 ((w0.alloc (.cells #[.int .i64 2, .int .i64 (-1), .slice none 0 0] 62)).alloc (.cells #[.int .i64 2] 56)) (some ⟨w0.heap.size + 1, 0, none⟩) 1 [2] := ⟨rfl, w0.heap.size + 1, 0, fun _ => rfl, fun i x h => by
    match i, h with
    | 0, h => simp at h; subst h; exact ⟨by rw [← s1]; exact cells_new _ [.int .i64 2] _ 0 _ rfl, ⟨by decide, by decide⟩⟩
    | i + 1, h => simp at h⟩
  have v3 : Vw aS 1 (((w0.alloc (.cells #[.int .i64 2, .int .i64 (-1), .slice none 0 0] 62)).alloc (.cells #[.int .i64 2] 56)).alloc (.cells #[.string ⟨#[97]⟩] 9)) (some ⟨w0.heap.size + 1 + 1, 0, none⟩) 1 [[97]] := ⟨rfl, w0.heap.size + 1 + 1, 0, fun _ => rfl, fun i x h => by
    match i, h with
    | 0, h => simp at h; subst h; exact ⟨⟨#[97]⟩, by rw [← s2]; exact cells_new _ [.string ⟨#[97]⟩] _ 0 _ rfl, rfl, by decide⟩
    | i + 1, h => simp at h⟩
  have v4 : Vw aN 4 ((((w0.alloc (.cells #[.int .i64 2, .int .i64 (-1), .slice none 0 0] 62)).alloc (.cells #[.int .i64 2] 56)).alloc (.cells #[.string ⟨#[97]⟩] 9)).alloc (.cells #[.int .i64 21, .int .i64 0, .int .i64 0, .int .i64 0, .int .i64 0, .int .i64 0, .int .i64 0, .int .i64 0, .int .i64 22, .int .i64 0, .int .i64 0, .int .i64 0, .int .i64 23, .int .i64 0, .int .i64 0, .int .i64 0] 36)) (some ⟨w0.heap.size + 1 + 1 + 1, 0, none⟩) 4 [(21, 0, 0, 0), (0, 0, 0, 0), (22, 0, 0, 0), (23, 0, 0, 0)] := ⟨rfl, w0.heap.size + 1 + 1 + 1, 0, fun _ => rfl, fun i x h => by
    match i, h with
    | 0, h => simp at h; subst h; exact ⟨by rw [← s3]; exact cells_new _ [.int .i64 21, .int .i64 0, .int .i64 0, .int .i64 0, .int .i64 0, .int .i64 0, .int .i64 0, .int .i64 0, .int .i64 22, .int .i64 0, .int .i64 0, .int .i64 0, .int .i64 23, .int .i64 0, .int .i64 0, .int .i64 0] _ 0 _ rfl, by rw [← s3]; exact cells_new _ [.int .i64 21, .int .i64 0, .int .i64 0, .int .i64 0, .int .i64 0, .int .i64 0, .int .i64 0, .int .i64 0, .int .i64 22, .int .i64 0, .int .i64 0, .int .i64 0, .int .i64 23, .int .i64 0, .int .i64 0, .int .i64 0] _ 1 _ rfl, by rw [← s3]; exact cells_new _ [.int .i64 21, .int .i64 0, .int .i64 0, .int .i64 0, .int .i64 0, .int .i64 0, .int .i64 0, .int .i64 0, .int .i64 22, .int .i64 0, .int .i64 0, .int .i64 0, .int .i64 23, .int .i64 0, .int .i64 0, .int .i64 0] _ 2 _ rfl, by rw [← s3]; exact cells_new _ [.int .i64 21, .int .i64 0, .int .i64 0, .int .i64 0, .int .i64 0, .int .i64 0, .int .i64 0, .int .i64 0, .int .i64 22, .int .i64 0, .int .i64 0, .int .i64 0, .int .i64 23, .int .i64 0, .int .i64 0, .int .i64 0] _ 3 _ rfl, ⟨by decide, by decide⟩, ⟨by decide, by decide⟩, ⟨by decide, by decide⟩, ⟨by decide, by decide⟩⟩
    | 1, h => simp at h; subst h; exact ⟨by rw [← s3]; exact cells_new _ [.int .i64 21, .int .i64 0, .int .i64 0, .int .i64 0, .int .i64 0, .int .i64 0, .int .i64 0, .int .i64 0, .int .i64 22, .int .i64 0, .int .i64 0, .int .i64 0, .int .i64 23, .int .i64 0, .int .i64 0, .int .i64 0] _ 4 _ rfl, by rw [← s3]; exact cells_new _ [.int .i64 21, .int .i64 0, .int .i64 0, .int .i64 0, .int .i64 0, .int .i64 0, .int .i64 0, .int .i64 0, .int .i64 22, .int .i64 0, .int .i64 0, .int .i64 0, .int .i64 23, .int .i64 0, .int .i64 0, .int .i64 0] _ 5 _ rfl, by rw [← s3]; exact cells_new _ [.int .i64 21, .int .i64 0, .int .i64 0, .int .i64 0, .int .i64 0, .int .i64 0, .int .i64 0, .int .i64 0, .int .i64 22, .int .i64 0, .int .i64 0, .int .i64 0, .int .i64 23, .int .i64 0, .int .i64 0, .int .i64 0] _ 6 _ rfl, by rw [← s3]; exact cells_new _ [.int .i64 21, .int .i64 0, .int .i64 0, .int .i64 0, .int .i64 0, .int .i64 0, .int .i64 0, .int .i64 0, .int .i64 22, .int .i64 0, .int .i64 0, .int .i64 0, .int .i64 23, .int .i64 0, .int .i64 0, .int .i64 0] _ 7 _ rfl, ⟨by decide, by decide⟩, ⟨by decide, by decide⟩, ⟨by decide, by decide⟩, ⟨by decide, by decide⟩⟩
    | 2, h => simp at h; subst h; exact ⟨by rw [← s3]; exact cells_new _ [.int .i64 21, .int .i64 0, .int .i64 0, .int .i64 0, .int .i64 0, .int .i64 0, .int .i64 0, .int .i64 0, .int .i64 22, .int .i64 0, .int .i64 0, .int .i64 0, .int .i64 23, .int .i64 0, .int .i64 0, .int .i64 0] _ 8 _ rfl, by rw [← s3]; exact cells_new _ [.int .i64 21, .int .i64 0, .int .i64 0, .int .i64 0, .int .i64 0, .int .i64 0, .int .i64 0, .int .i64 0, .int .i64 22, .int .i64 0, .int .i64 0, .int .i64 0, .int .i64 23, .int .i64 0, .int .i64 0, .int .i64 0] _ 9 _ rfl, by rw [← s3]; exact cells_new _ [.int .i64 21, .int .i64 0, .int .i64 0, .int .i64 0, .int .i64 0, .int .i64 0, .int .i64 0, .int .i64 0, .int .i64 22, .int .i64 0, .int .i64 0, .int .i64 0, .int .i64 23, .int .i64 0, .int .i64 0, .int .i64 0] _ 10 _ rfl, by rw [← s3]; exact cells_new _ [.int .i64 21, .int .i64 0, .int .i64 0, .int .i64 0, .int .i64 0, .int .i64 0, .int .i64 0, .int .i64 0, .int .i64 22, .int .i64 0, .int .i64 0, .int .i64 0, .int .i64 23, .int .i64 0, .int .i64 0, .int .i64 0] _ 11 _ rfl, ⟨by decide, by decide⟩, ⟨by decide, by decide⟩, ⟨by decide, by decide⟩, ⟨by decide, by decide⟩⟩
    | 3, h => simp at h; subst h; exact ⟨by rw [← s3]; exact cells_new _ [.int .i64 21, .int .i64 0, .int .i64 0, .int .i64 0, .int .i64 0, .int .i64 0, .int .i64 0, .int .i64 0, .int .i64 22, .int .i64 0, .int .i64 0, .int .i64 0, .int .i64 23, .int .i64 0, .int .i64 0, .int .i64 0] _ 12 _ rfl, by rw [← s3]; exact cells_new _ [.int .i64 21, .int .i64 0, .int .i64 0, .int .i64 0, .int .i64 0, .int .i64 0, .int .i64 0, .int .i64 0, .int .i64 22, .int .i64 0, .int .i64 0, .int .i64 0, .int .i64 23, .int .i64 0, .int .i64 0, .int .i64 0] _ 13 _ rfl, by rw [← s3]; exact cells_new _ [.int .i64 21, .int .i64 0, .int .i64 0, .int .i64 0, .int .i64 0, .int .i64 0, .int .i64 0, .int .i64 0, .int .i64 22, .int .i64 0, .int .i64 0, .int .i64 0, .int .i64 23, .int .i64 0, .int .i64 0, .int .i64 0] _ 14 _ rfl, by rw [← s3]; exact cells_new _ [.int .i64 21, .int .i64 0, .int .i64 0, .int .i64 0, .int .i64 0, .int .i64 0, .int .i64 0, .int .i64 0, .int .i64 22, .int .i64 0, .int .i64 0, .int .i64 0, .int .i64 23, .int .i64 0, .int .i64 0, .int .i64 0] _ 15 _ rfl, ⟨by decide, by decide⟩, ⟨by decide, by decide⟩, ⟨by decide, by decide⟩, ⟨by decide, by decide⟩⟩
    | i + 4, h => simp at h⟩
  exact ⟨nextB (nextB (nextB b1 b2) b3) b4, _, _, _, _, _, _, _, _, _, _, _, _, _, _, _, _, _, _, _, _, _, rfl, ((v1.next aC_nx b2).next aC_nx b3).next aC_nx b4, Vw.empty _ _ _, Vw.empty _ _ _, (v2.next aI_nx b3).next aI_nx b4, Vw.empty _ _ _, v3.next aS_nx b4, v4⟩
set_option maxRecDepth 100000 in
set_option maxHeartbeats 8000000 in
theorem small_any (w : World) : Calls Tryd.prog 18 #[] w fun e w' => ∃ v, e = .returned v ∧ Pw w' v smallP ∧ Below w.heap.size w w' := by
  have X0 := hid (Bx.new w #[.slice none 0 0, .slice none 0 0, .slice none 0 0, .slice none 0 0, .slice none 0 0, .slice none 0 0, .slice none 0 0] 29 (by decide))
  have B0 := hid (allocB w (.cells #[.slice none 0 0, .slice none 0 0, .slice none 0 0, .slice none 0 0, .slice none 0 0, .slice none 0 0, .slice none 0 0] 29))
  obtain ⟨r, hr⟩ : ∃ r, r = w.heap.size := ⟨_, rfl⟩
  have WR := hid hr
  rw [← hr] at X0
  have RL := hid (show r < (w.alloc (.cells #[.slice none 0 0, .slice none 0 0, .slice none 0 0, .slice none 0 0, .slice none 0 0, .slice none 0 0, .slice none 0 0] 29)).heap.size from by simp; omega)
  clear hr
  go_enter Tryd.func18, Tryd.ntmps18
  go_upto_region 1 with fail
  rw [← WR.out]
  generalize World.alloc w _ = w0 at *
  have SW := small_w w0
  have V4 := hid SW.2
  have A4 := hid SW.1
  clear SW
  have X4 := hid (X0.out.next A4.out)
  have d0 := X4.out.cell 0 _ rfl
  have d1 := X4.out.cell 1 _ rfl
  have d2 := X4.out.cell 2 _ rfl
  have d3 := X4.out.cell 3 _ rfl
  have d4 := X4.out.cell 4 _ rfl
  have d5 := X4.out.cell 5 _ rfl
  have d6 := X4.out.cell 6 _ rfl
  have fz := X4.out.fz
  have S := hid (set7 (.slice (some ⟨w0.heap.size, 0, none⟩) 1 1) (.slice none 0 0) (.slice none 0 0) (.slice (some ⟨w0.heap.size + 1, 0, none⟩) 1 1) (.slice none 0 0) (.slice (some ⟨w0.heap.size + 1 + 1, 0, none⟩) 1 1) (.slice (some ⟨w0.heap.size + 1 + 1 + 1, 0, none⟩) 4 4) d0 d1 d2 d3 d4 d5 d6)
  have G7 := hid (grown7 ((((w0.alloc (.cells #[.int .i64 2, .int .i64 (-1), .slice none 0 0] 62)).alloc (.cells #[.int .i64 2] 56)).alloc (.cells #[.string ⟨#[97]⟩] 9)).alloc (.cells #[.int .i64 21, .int .i64 0, .int .i64 0, .int .i64 0, .int .i64 0, .int .i64 0, .int .i64 0, .int .i64 0, .int .i64 22, .int .i64 0, .int .i64 0, .int .i64 0, .int .i64 23, .int .i64 0, .int .i64 0, .int .i64 0] 36)) r (.slice (some ⟨w0.heap.size, 0, none⟩) 1 1) (.slice none 0 0) (.slice none 0 0) (.slice (some ⟨w0.heap.size + 1, 0, none⟩) 1 1) (.slice none 0 0) (.slice (some ⟨w0.heap.size + 1 + 1, 0, none⟩) 1 1) (.slice (some ⟨w0.heap.size + 1 + 1 + 1, 0, none⟩) 4 4))
  have VF := hid (V4.out.but G7.out (ns_zero X4.out))
  have BF := hid (bl_but (nextB B0.out A4.out) (Nat.le_of_eq WR.out.symm) G7.out)
  clear V4 G7
  go_wp2_with fail
  clear fz d0 d1 d2 d3 d4 d5 d6 X4
  generalize (((((((((((w0.alloc (.cells #[.int .i64 2, .int .i64 (-1), .slice none 0 0] 62)).alloc (.cells #[.int .i64 2] 56)).alloc (.cells #[.string ⟨#[97]⟩] 9)).alloc (.cells #[.int .i64 21, .int .i64 0, .int .i64 0, .int .i64 0, .int .i64 0, .int .i64 0, .int .i64 0, .int .i64 0, .int .i64 22, .int .i64 0, .int .i64 0, .int .i64 0, .int .i64 23, .int .i64 0, .int .i64 0, .int .i64 0] 36)).setCell ⟨r, 0, none⟩ (.slice (some ⟨w0.heap.size, 0, none⟩) 1 1)).setCell ⟨r, 1, none⟩ (.slice none 0 0)).setCell ⟨r, 2, none⟩ (.slice none 0 0)).setCell ⟨r, 3, none⟩ (.slice (some ⟨w0.heap.size + 1, 0, none⟩) 1 1)).setCell ⟨r, 4, none⟩ (.slice none 0 0)).setCell ⟨r, 5, none⟩ (.slice (some ⟨w0.heap.size + 1 + 1, 0, none⟩) 1 1)).setCell ⟨r, 6, none⟩ (.slice (some ⟨w0.heap.size + 1 + 1 + 1, 0, none⟩) 4 4)) = wf at *
  obtain ⟨f0, f1, f2, f3, f4, f5, f6⟩ := S.out
  try simp only [Exit.inBlock, Exit.then]
  refine bodyPost_ret (by simp [results, Tryd.results18, go_sem, f0, f1, f2, f3, f4, f5, f6]; try rfl) rfl ?_
  exact ⟨_, rfl, VF.out, BF.out⟩

end Go.Proofs.YtcmifdnndckpcaaDoor
