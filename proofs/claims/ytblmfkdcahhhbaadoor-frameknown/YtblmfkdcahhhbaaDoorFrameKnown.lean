/- Proved: the law FrameKnown of package publicanlaw5 returns true (it takes no argument), whatever memory it starts in, on every schedule; the table of package pack holds what the program's text lays (the card ties it to that text). -/
import Derived.Test.YtblmfkdcahhhbaaDoorCards
import Derived.Test.YtblmfkdcahhhbaaDoorTie
import Derived.Test.YtblmfkdcahhhbaaDoorJ4
namespace Go.Proofs.YtblmfkdcahhhbaaDoor.frameKnown
open Go.ChangeShapes Go.WideShapes Go.ChangeAt Go.RowKit
set_option linter.unusedVariables false
set_option linter.unusedSimpArgs false


theorem zeros_ok (n : Nat) : Bys (List.replicate n 0) := fun x hx => by have := List.eq_of_mem_replicate hx; omega
theorem by_zeros (w : World) (n : Nat) (hn : n ≤ 100000) : By (w.alloc (.cells (vals (List.replicate n 0)).toArray 5)) (some ⟨w.heap.size, 0, none⟩) n n (List.replicate n 0) := by
  refine ⟨by simp, Nat.le_refl _, by unfold maxLen; omega, fun e => by simp at e, ⟨w.heap.size, 0, fun _ => rfl, fun i hi => ?_⟩, zeros_ok n⟩
  rw [cell_of_row _ _ _ _ _ _ (heap_alloc_last w _)]
  simp [vals, List.getD, hi]
set_option maxRecDepth 100000 in
set_option maxHeartbeats 8000000 in
theorem walk (w : World) (T : Tab w) : Calls Tryd.prog 3 #[] w fun e w' => e = .returned (.bool true) ∧ Below w.heap.size w w' := by
  have TT : Hid (Tab w) := T
  clear T
  go_enter Tryd.func3, Tryd.ntmps3
  go_wp2_with fail
  refine (awake_any w TT.out).mono ?_
  rintro e w1 ⟨rfl, b1⟩
  have B1 : Hid _ := b1
  clear b1
  go_wp2_with fail
  refine (New_yes 4 w1 (by decide) (by decide)).mono ?_
  rintro e w2 ⟨rfl, d2, b2⟩
  have I2 : Hid (InvD w (w1.heap.size + 1) w1.heap.size 4 fresh w2) := InvD.new B1.out d2 b2 (by omega) (Nat.le_refl _)
  clear d2 b2 B1
  generalize w1.heap.size + 1 = p at *
  generalize w1.heap.size = q at *
  go_wp2_with fail
  refine (Open_no w2 p q 4 fresh I2.out.d 1 4 (by decide) (by decide) (by decide)).mono ?_
  rintro e w' ⟨rfl, rfl⟩
  go_wp2_with fail
  refine (Open_no w2 p q 4 fresh I2.out.d (-1) 2 (by decide) (by decide) (by decide)).mono ?_
  rintro e w' ⟨rfl, rfl⟩
  go_wp2_with fail
  refine (I2.out.openAt TT.out 0 2 (by decide) (by decide) (by decide) rfl (by decide)).mono ?_
  rintro e w3 ⟨pa, rfl, a3, -⟩
  rw [opn_fresh] at a3
  have A3 : Hid _ := a3
  clear a3 I2
  have mk1 : (Instr.makeSlice 32 (.int .i64 1001) (.int .i64 1001)).run Tryd.prog w3 = .ok (.slice (some ⟨w3.heap.size, 0, none⟩) 1001 1001) (w3.alloc (.cells (vals (List.replicate 1001 0)).toArray 5)) := make_z w3 1001 (by decide)
  have Y4 : Hid (By (w3.alloc (.cells (vals (List.replicate 1001 0)).toArray 5)) (some ⟨w3.heap.size, 0, none⟩) 1001 1001 (List.replicate 1001 0)) := by_zeros w3 1001 (by decide)
  have A4 : Hid _ := A3.out.below (allocB w3 (.cells (vals (List.replicate 1001 0)).toArray 5))
  have AD : Hid _ := A4.out.addAt 1 (by decide) _ _ _ _ Y4.out (by decide)
  rw [addG_big (by rw [List.length_replicate]; decide)] at AD
  generalize vals (List.replicate 1001 0) = Z1 at *
  clear Y4 A4
  go_wp2_with fail
  refine Calls.mono AD.out ?_
  rintro e w5 ⟨rfl, A5'⟩
  have A5 : Hid _ := A5'
  clear A5' AD mk1 A3
  have mk2 : (Instr.makeSlice 32 (.int .i64 200) (.int .i64 200)).run Tryd.prog w5 = .ok (.slice (some ⟨w5.heap.size, 0, none⟩) 200 200) (w5.alloc (.cells (vals (List.replicate 200 0)).toArray 5)) := make_z w5 200 (by decide)
  have Y6 : Hid (By (w5.alloc (.cells (vals (List.replicate 200 0)).toArray 5)) (some ⟨w5.heap.size, 0, none⟩) 200 200 (List.replicate 200 0)) := by_zeros w5 200 (by decide)
  have A6 : Hid _ := A5.out.below (allocB w5 (.cells (vals (List.replicate 200 0)).toArray 5))
  have AD : Hid _ := A6.out.addAt 1 (by decide) _ _ _ _ Y6.out (by decide)
  rw [addG_full (by rw [List.length_replicate]; decide) rfl (by rw [List.length_replicate]; decide)] at AD
  generalize vals (List.replicate 200 0) = Z2 at *
  clear Y6 A6
  go_wp2_with fail
  refine Calls.mono AD.out ?_
  rintro e w7 ⟨rfl, A7'⟩
  have A7 : Hid _ := A7'
  clear A7' AD mk2 A5
  go_wp2_with fail
  refine Calls.mono (A7.out.getNo 1 (fun i hi => absurd hi (Nat.not_lt_zero _))) ?_
  rintro e w8 ⟨⟨⟨a8, c8, rfl, -, -⟩, -⟩, A8'⟩
  have A8 : Hid _ := A8'
  clear A8' A7
  dsimp only [List.length_nil]
  go_wp2_with fail
  refine Calls.mono (On_any p q 4 fresh w8 A8.out.d (by decide)) ?_
  rintro e w9 ⟨rfl, d9, g9⟩
  have A9 : Hid _ := A8.out.gr d9 g9
  clear d9 g9 A8
  have AD : Hid _ := A9.out.addAt 1 (by decide) none 0 0 [] (by_nil w9) (by decide)
  rw [addG_over (by decide) (by decide)] at AD
  go_wp2_with fail
  refine Calls.mono AD.out ?_
  rintro e w10 ⟨rfl, A10'⟩
  have A10 : Hid _ := A10'
  clear A10' AD A9
  have S1 : Hid _ := Size_no (-1) w10 (by decide)
  have S2 : Hid _ := Size_no 1001 w10 (by decide)
  have S3 : Hid _ := Size_any 1000 w10 (by decide)
  rw [show fsize 1000 = 17 by decide] at S3
  have F1 : Hid _ := Fits_any 1000 _ 1 1 _ _ (ln_new w10 [1001] 3 (by decide)) (by decide)
  rw [show fitB (fun i => ([1001] : List Int).getD i 0) 1 1000 = false by decide] at F1
  have F2 : Hid _ := fun W => Fits_any 0 none 0 0 (fun _ => 0) W ⟨Nat.le_refl _, Nat.zero_le _, fun _ => rfl, 0, fun h => absurd h (Nat.not_lt_zero _), fun i hi => absurd hi (Nat.not_lt_zero _)⟩ (by decide)
  rw [show fitB (fun _ => 0) 0 0 = true by decide] at F2
  go_wp2_with fail
  refine Calls.mono S1.out ?_
  rintro e w' ⟨rfl, rfl⟩
  go_wp2_with fail
  refine Calls.mono S2.out ?_
  rintro e w' ⟨rfl, rfl⟩
  go_wp2_with fail
  refine Calls.mono S3.out ?_
  rintro e w' ⟨rfl, rfl⟩
  go_wp2_with fail
  refine Calls.mono F1.out ?_
  rintro e w' ⟨rfl, rfl⟩
  go_wp2_with fail
  refine Calls.mono (F2.out _) ?_
  rintro e w' ⟨rfl, rfl⟩
  go_wp2
  go_ret
  exact ⟨rfl, nextB A10.out.b (allocB _ _)⟩


theorem contract (H : Type) (enc : TypeId × Value → H) (W : World) (base : Nat) (args : Array Value) (ds gs : List (DataW H)) (before : List MemPlace)
    (hval : ∀ (j : Nat) t v, Tryd.f3.params[j]? = some t → args[j]? = some v → Value.okWide Tryd.prog W .any base t v)
    (hW : DataW.Whole enc Tryd.prog Tryd.f3.params.toList Rows.frameKnownSpec.vars false W args.toList ds gs before) (hL : laidMetH Tryd.prog Rows.frameKnownRow.laid W) :
    Calls Tryd.prog 3 args W fun e W' => ∃ v, e = .returned v ∧ Rows.frameKnownSpec.post enc Tryd.prog Tryd.f3 false true false false W args v W' := by
  have hW' := hW
  obtain ⟨p, q, hA0, hV, rfl, hfz, hnd⟩ := hW
  have hA : DataW.TrodAll enc Tryd.prog W 0 (fun _ => true) true Tryd.f3.params.toList args.toList ds p := hA0
  have hT : Tab W := tab_of hL
  rw [Tryd.params3] at hA
  obtain ⟨rfl, rfl, rfl⟩ := trodAll_none hA
  obtain ⟨rfl, rfl⟩ := trodVars_none hV
  refine (walk W hT).mono fun e W' ⟨he, bel⟩ => ?_
  subst he
  exact ⟨_, rfl, _, _, _, [], _, [], hW', trodAll_mk1 (shut_bool Tryd.underlying4 _), trodAll_mk0, rfl, bel.frame _, fun h => by cases h⟩

/-- A world for the witness: the table laid. -/
noncomputable def laidWorld (os : Os) : World :=
  { World.holding Tryd.prog os ⟨#[], #[], []⟩ with heap := (World.holding Tryd.prog os ⟨#[], #[], []⟩).heap.modify 0 fun
      | .cells _ t frozen => .cells (tabL.map (Value.int .u32)).toArray t frozen
      | o => o }
theorem laid_met (os : Os) : laidMet Tryd.prog Rows.frameKnownRow.laid ((laidWorld os).forCall (fun _ _ => 0) ⟨#[], #[], []⟩).memory :=
  laidMet_of_run' 8 (by kernel_rfl) (by kernel_rfl)
theorem reads (os : Os) {H : Type} (enc : TypeId × Value → H) : ∃ places, DataW.whole enc Tryd.prog ((laidWorld os).forCall (fun _ _ => 0) ⟨#[], #[], []⟩).memory Tryd.f3.params.toList Rows.frameKnownSpec.vars false (#[] : Array Value).toList 8 = some ([], [], places) :=
  ⟨[], by kernel_rfl⟩

set_option maxRecDepth 100000 in
theorem lifted (os : Os) (started : os.Started) (H : Type) (enc : TypeId × Value → H) (F : Stop.Interp) :
    ReturnsInHanded {} Tryd.checked os 3 .any ((OpenSpec.ofChange Rows.frameKnownSpec).preRow enc Tryd.prog Tryd.f3 Rows.frameKnownRow.domain false Rows.frameKnownRow.laid) (((OpenSpec.ofChange Rows.frameKnownSpec).at F).post enc Tryd.prog Tryd.f3 false true false false) := by
  obtain ⟨places, hx⟩ := reads os enc
  refine returnsInHanded_of_row (C := Tryd.checked) (s := OpenSpec.ofChange Rows.frameKnownSpec) own started (by kernel_rfl) Tryd.func3
    (witness_row_at (enc := enc) (C := Tryd.checked) false (laidWorld os) #[] rfl (by kernel_rfl) (by kernel_rfl) (by kernel_rfl)
      (OpenSpec.preRow_of_cond 8 hx (by kernel_rfl) (fun k hk => by cases hk) (by kernel_rfl) (laid_met os))) ?_
  intro W base args ds gs before hval hW _ _ _ hL _ _
  exact contract H enc W base args ds gs before hval hW hL

theorem said : Rows.FrameKnownSaid :=
  OpenClaim.holds_of_cond 3 Tryd.f3 rfl rfl rfl rfl rfl rfl rfl ⟨rfl, rfl, rfl, rfl, rfl⟩ rfl rfl rfl rfl rfl (by kernel_rfl) Tryd.func3 (by kernel_rfl)
    (of_decide_eq_true (by kernel_rfl)) (by unfold Func.isWrapper; first | (rw [if_pos (by decide +kernel)]; kernel_rfl) | (rw [if_neg (by decide +kernel)]; exact ⟨rfl, rfl⟩))
    (fun os started H enc _ F => by rw [OpenClaim.pre_eq_preRow]; exact lifted os started H enc F)

theorem plain (f : FuncId) (fn : Func) (hf : Tryd.pinned.checked.prog.funcNamed "publican/publicanlaw5.FrameKnown" = some f) (hfn : Tryd.pinned.checked.prog.funcs[f]? = some fn) :
    false = Tryd.pinned.checked.prog.looks [] ∧ ∀ (j : Nat) t, fn.params[j]? = some t → Tryd.pinned.checked.prog.wantsStandIn t = false := by
  obtain rfl : f = 3 := Option.some.inj ((show Tryd.prog.funcNamed "publican/publicanlaw5.FrameKnown" = some 3 by kernel_rfl).symm.trans hf) |>.symm
  obtain rfl : fn = Tryd.f3 := (Option.some.inj (Tryd.func3.symm.trans hfn)).symm
  refine ⟨by kernel_rfl, fun j t ht => ?_⟩
  rw [Tryd.params3] at ht
  simp at ht

theorem card : Rows.FrameKnownCardSaid :=
  Claim7.holds_tied_plain_at .later [] _ _ _ _ said (fun _ h => by cases h) (by kernel_rfl) (fun _ h => by cases h) frameKnown_row_tie rfl ⟨rfl, rfl⟩ (by kernel_rfl) rfl plain (by kernel_rfl)

end Go.Proofs.YtblmfkdcahhhbaaDoor.frameKnown
namespace Go.Proofs.YtblmfkdcahhhbaaDoor

theorem FrameKnown_holds : Rows.FrameKnownCardSaid := frameKnown.card

end Go.Proofs.YtblmfkdcahhhbaaDoor
