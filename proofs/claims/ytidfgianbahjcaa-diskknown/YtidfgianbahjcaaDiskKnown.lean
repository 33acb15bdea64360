/- Proved: the law DiskKnown of package publicanlaw4 returns true (it takes no argument), whatever memory it starts in, on every schedule; no condition. -/
import Derived.Test.YtidfgianbahjcaaE1
namespace Go.Proofs.Ytidfgianbahjcaa.diskKnown
open Go.ChangeShapes Go.WideShapes Go.ChangeAt Go.RowKit
set_option linter.unusedVariables false

set_option maxHeartbeats 4000000 in
theorem walk (w : World) : Calls Try.prog 3 #[] w fun e w' => e = .returned (.bool true) ∧ Below w.heap.size w w' := by
  go_enter Try.func3, Try.ntmps3
  go_wp2_with fail
  refine (awake_any w).mono ?_
  rintro e w1 ⟨rfl, b1⟩
  have B1 : Hid _ := b1
  clear b1
  go_wp2_with fail
  refine (New_no 0 w1 (by decide)).mono ?_
  rintro e w' ⟨rfl, rfl⟩
  go_wp2_with fail
  refine (New_no 4097 w1 (by decide)).mono ?_
  rintro e w' ⟨rfl, rfl⟩
  go_wp2_with fail
  refine (New_yes 1 w1 (by decide) (by decide)).mono ?_
  rintro e w2 ⟨rfl, d2, b2⟩
  have D2 : Hid _ := d2
  have B2 : Hid (Below w.heap.size w w2) := nextB B1.out b2
  have LP : Hid (w.heap.size ≤ w1.heap.size + 1 ∧ w.heap.size ≤ w1.heap.size) := ⟨by have := B1.out.size; omega, B1.out.size⟩
  clear d2 b2 B1
  generalize w1.heap.size + 1 = p at *
  generalize w1.heap.size = q at *
  go_wp2_with fail
  refine (Read_no p q 1 fresh 1 w2 D2.out (Or.inl (by decide))).mono ?_
  rw [show rE 1 fresh 1 = 1 by decide +kernel]
  rintro e w' ⟨rfl, rfl⟩
  have mk : (Instr.makeSlice 27 (.int .i64 65) (.int .i64 65)).run Try.prog w2 = .ok (.slice (some ⟨w2.heap.size, 0, none⟩) 65 65) (w2.alloc (.cells (vals (List.replicate 65 0)).toArray 5)) := make_z w2 65 (by decide)
  have Y : Hid (By (w2.alloc (.cells (vals (List.replicate 65 0)).toArray 5)) (some ⟨w2.heap.size, 0, none⟩) 65 65 (List.replicate 65 0)) := by_const w2 (List.replicate 65 0) (fun x hx => by have := List.eq_of_mem_replicate hx; omega) (by simp) (0, 0) 5
  generalize hZ : vals (List.replicate 65 0) = Z at *
  clear hZ
  go_wp2_with fail
  refine (Write_is (x := 1) (s' := fresh) (D2.out.below (allocB w2 (.cells Z.toArray 5))) Y.out (fun _ y hy => by have := D2.out.ltp; have := D2.out.ltq; simp at hy; subst hy; exact ⟨by show w2.heap.size ≠ p; omega, by show w2.heap.size ≠ q; omega⟩) (by decide) (wE_no (by decide)).1 (wE_no (by decide)).2).mono ?_
  rintro e w3 ⟨rfl, d3, g3⟩
  have D3 : Hid _ := d3
  have B3 : Hid (Below w.heap.size w w3) := Below.gr (B2.out.trans ((allocB w2 _).mono B2.out.size)) g3 (by have := B2.out.size; simp; omega) LP.out.1 LP.out.2
  clear d3 g3 D2 Y
  go_wp2_with fail
  refine (Write_is (x := 1) (s' := fresh) D3.out (By.empty w3) (fun h => absurd h (by decide)) (by decide) (wE_no (by decide)).1 (wE_no (by decide)).2).mono ?_
  rintro e w4 ⟨rfl, d4, g4⟩
  have B4 : Hid (Below w.heap.size w w4) := Below.gr B3.out g4 B3.out.size LP.out.1 LP.out.2
  go_wp2
  go_ret
  exact ⟨rfl, B4.out⟩


set_option maxRecDepth 100000 in
theorem lifted (os : Os) (started : os.Started) (H : Type) (enc : TypeId × Value → H) :
    ReturnsInHanded {} Try.checked os 3 .any (Rows.diskKnownSpec.pre6 enc Try.prog Try.f3 Rows.diskKnownRow.domain false) (Rows.diskKnownSpec.post enc Try.prog Try.f3 false true false false) := by
  refine returnsInHanded_of_change (C := Try.checked) own started (by kernel_rfl) Try.func3
    (ChangeSpec.witness6 (enc := enc) (C := Try.checked) false ⟨#[], #[], []⟩ 8 (by kernel_rfl) (by kernel_rfl) (by kernel_rfl) (by kernel_rfl)) ?_
  intro W base args ds gs before hval0 hW hcnd _
  have hW' := hW
  obtain ⟨p, q, hA0, hV, rfl, hfz, hnd⟩ := hW
  have hA : DataW.TrodAll enc Try.prog W 0 (fun _ => true) true Try.f3.params.toList args.toList ds p := hA0
  rw [Try.params3] at hA
  obtain ⟨rfl, rfl, rfl⟩ := trodAll_none hA
  obtain ⟨rfl, rfl⟩ := trodVars_none hV
  clear hA0 hval0
  refine (walk W).mono fun e W' ⟨he, bel⟩ => ?_
  subst he
  exact ⟨_, rfl, _, _, _, [], _, [], hW', trodAll_mk1 (shut_bool Try.underlying4 _), trodAll_mk0, rfl, bel.frame _, fun h => by cases h⟩

theorem over : Rows.diskKnownRow.holds Try.pinned (OpenSpec.ofChange Rows.diskKnownSpec) :=
  OpenClaim.holds_of_wide 3 Try.f3 rfl rfl rfl rfl rfl rfl rfl ⟨rfl, rfl, rfl, rfl, rfl⟩ rfl rfl rfl rfl rfl (by kernel_rfl) Try.func3 (by kernel_rfl)
    (of_decide_eq_true (by kernel_rfl)) (by unfold Func.isWrapper; first | (rw [if_pos (by decide +kernel)]; kernel_rfl) | (rw [if_neg (by decide +kernel)]; exact ⟨rfl, rfl⟩))
    (fun os started H enc _ => lifted os started H enc)

end Go.Proofs.Ytidfgianbahjcaa.diskKnown
namespace Go.Proofs.Ytidfgianbahjcaa

theorem DiskKnown_holds : Rows.DiskKnownSaid := diskKnown.over

end Go.Proofs.Ytidfgianbahjcaa
