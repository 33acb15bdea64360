/- Proved: the law PackKnown of package publicanlaw3 returns true (it takes no argument), whatever memory it starts in, on every schedule; the table of package pack holds what the program's text lays (the card ties it to that text). -/
import Derived.Test.YtgjimoihbbogdaaDoorCards
import Derived.Test.YtgjimoihbbogdaaDoorTie
import Derived.Test.YtgjimoihbbogdaaDoorW9
namespace Go.Proofs.YtgjimoihbbogdaaDoor.packKnown
open Go.ChangeMaps (open_string shut_string)
open Go.ChangeShapes Go.WideShapes Go.ChangeAt Go.RowKit
set_option linter.unusedVariables false

theorem by_three (w : World) : By (w.alloc (.cells #[.int .u8 128, .int .u8 0, .int .u8 1] 5)) (some ⟨w.heap.size, 0, none⟩) 3 3 [128, 0, 1] := by
  refine ⟨rfl, Nat.le_refl _, by decide, fun e => by simp at e, ⟨w.heap.size, 0, fun _ => rfl, fun i hi => ?_⟩, ?_⟩
  · rw [Nat.zero_add]
    match i, hi with
    | 0, _ => simp
    | 1, _ => simp
    | 2, _ => simp
  · intro x hx
    simp at hx
    omega

set_option maxHeartbeats 4000000 in
theorem walk (w : World) (ht : Tab w) : Calls Tryd.prog 3 #[] w fun e w' => e = .returned (.bool true) ∧ Below w.heap.size w w' := by
  have T : Hid (Tab w) := ht
  clear ht
  go_enter Tryd.func3, Tryd.ntmps3
  go_wp2_with fail
  refine (awake_any w T.out).mono ?_
  rintro e w1 ⟨rfl, b1⟩
  have h0 : 0 < (w1.alloc (.cells #[.int .u8 128, .int .u8 0, .int .u8 1] 5)).heap.size := by simp
  have B1 : Hid _ := b1
  have H0 : Hid _ := h0
  clear b1 h0
  go_wp2_with fail
  refine (Read_any (some ⟨w1.heap.size, 0, none⟩) 3 3 [128, 0, 1] _ (by_three w1) (by decide) H0.out).mono ?_
  rintro e w2 ⟨p, q, rfl, r2, p1, p2, q2, b2⟩
  have B2 : Hid (Below w.heap.size w w2) := nextB (nextB B1.out (allocB w1 _)) b2
  have P : Hid (w.heap.size ≤ p) := by have := B1.out.size; simp at p1; show _ ≤ _; omega
  have R2 : Hid _ := r2
  clear r2 p1 p2 q2 b2 B1 H0
  go_wp2_with fail
  refine (RU_is (u := 0) (b' := true) (bs' := []) R2.out (by decide) (by decide +kernel) (by decide +kernel) (by decide +kernel)).mono ?_
  rintro e w3 ⟨rfl, r3, g3⟩
  have R3 : Hid _ := r3
  have G3 : Hid _ := g3
  clear r3 g3
  go_wp2_with fail
  refine (RI_is (u := 0) (b' := true) (bs' := []) R3.out (by decide) (by decide +kernel) (by decide +kernel) (by decide +kernel)).mono ?_
  rintro e w4 ⟨rfl, r4, g4⟩
  have R4 : Hid _ := r4
  have B4 : Hid (Below w.heap.size w w4) := B2.out.grown (grownBy_trans G3.out g4) B2.out.size (fun k hk => by simp at hk; have := P.out; omega)
  clear r4 g4
  go_wp2_with (first | (go_at_call 13; refine (RBad_any p q true [] w4 R4.out).mono ?_; rintro e w4' ⟨rfl, rfl⟩) | (go_at_call 14; refine (RLeft_any p q true [] w4 R4.out).mono ?_; rintro e w4' ⟨rfl, rfl⟩) | (go_at_call 15; refine (RS_is (u := ⟨#[]⟩) (b' := true) (bs' := []) R4.out (by decide) (by decide +kernel) (by decide +kernel) (by decide +kernel)).mono ?_; rintro e w5 ⟨rfl, r5, g5⟩))
  have B5 : Hid (Below w.heap.size w w5) := B4.out.grown g5 B4.out.size (fun k hk => by simp at hk; have := P.out; omega)
  refine (pSum_any none 0 0 [] w5 (By.empty w5) (by decide) (T.out.next B5.out)).mono ?_
  rw [show sum [] = 0 from rfl]
  rintro e w6 ⟨rfl, rfl⟩
  go_wp2
  go_ret
  exact ⟨rfl, B5.out⟩


theorem contract (H : Type) (enc : TypeId × Value → H) (W : World) (base : Nat) (args : Array Value) (ds gs : List (DataW H)) (before : List MemPlace)
    (hval : ∀ (j : Nat) t v, Tryd.f3.params[j]? = some t → args[j]? = some v → Value.okWide Tryd.prog W .any base t v)
    (hW : DataW.Whole enc Tryd.prog Tryd.f3.params.toList Rows.packKnownSpec.vars false W args.toList ds gs before) (hL : laidMetH Tryd.prog Rows.packKnownRow.laid W) :
    Calls Tryd.prog 3 args W fun e W' => ∃ v, e = .returned v ∧ Rows.packKnownSpec.post enc Tryd.prog Tryd.f3 false true false false W args v W' := by
  have hW' := hW
  obtain ⟨p, q, hA0, hV, rfl, hfz, hnd⟩ := hW
  have hA : DataW.TrodAll enc Tryd.prog W 0 (fun _ => true) true Tryd.f3.params.toList args.toList ds p := hA0
  have hT : Tab W := tab_of hL
  rw [Tryd.params3] at hA
  obtain ⟨rfl, rfl, rfl⟩ := trodAll_none hA
  obtain ⟨rfl, rfl⟩ := trodVars_none hV
  refine (walk W hT).mono fun e W' ⟨he, bel⟩ => ?_
  subst he
  exact ⟨_, rfl, _, _, _, [], _, [], hW', trodAll_mk1 (shut_bool Tryd.underlying4 _), trodAll_mk0, rfl, bel.frame _, fun h => by cases h⟩

/-- A world for the witness: the table laid. -/
noncomputable def laidWorld (os : Os) : World :=
  { World.holding Tryd.prog os ⟨#[], #[], []⟩ with heap := (World.holding Tryd.prog os ⟨#[], #[], []⟩).heap.modify 0 fun
      | .cells _ t frozen => .cells (tabL.map (Value.int .u32)).toArray t frozen
      | o => o }
theorem laid_met (os : Os) : laidMet Tryd.prog Rows.packKnownRow.laid ((laidWorld os).forCall (fun _ _ => 0) ⟨#[], #[], []⟩).memory :=
  laidMet_of_run' 8 (by kernel_rfl) (by kernel_rfl)
theorem reads (os : Os) {H : Type} (enc : TypeId × Value → H) : ∃ places, DataW.whole enc Tryd.prog ((laidWorld os).forCall (fun _ _ => 0) ⟨#[], #[], []⟩).memory Tryd.f3.params.toList Rows.packKnownSpec.vars false (#[] : Array Value).toList 8 = some ([], [], places) :=
  ⟨[], by kernel_rfl⟩

set_option maxRecDepth 100000 in
theorem lifted (os : Os) (started : os.Started) (H : Type) (enc : TypeId × Value → H) (F : Stop.Interp) :
    ReturnsInHanded {} Tryd.checked os 3 .any ((OpenSpec.ofChange Rows.packKnownSpec).preRow enc Tryd.prog Tryd.f3 Rows.packKnownRow.domain false Rows.packKnownRow.laid) (((OpenSpec.ofChange Rows.packKnownSpec).at F).post enc Tryd.prog Tryd.f3 false true false false) := by
  obtain ⟨places, hx⟩ := reads os enc
  refine returnsInHanded_of_row (C := Tryd.checked) (s := OpenSpec.ofChange Rows.packKnownSpec) own started (by kernel_rfl) Tryd.func3
    (witness_row_at (enc := enc) (C := Tryd.checked) false (laidWorld os) #[] rfl (by kernel_rfl) (by kernel_rfl) (by kernel_rfl)
      (OpenSpec.preRow_of_cond 8 hx (by kernel_rfl) (fun k hk => by cases hk) (by kernel_rfl) (laid_met os))) ?_
  intro W base args ds gs before hval hW _ _ _ hL _ _
  exact contract H enc W base args ds gs before hval hW hL

theorem said : Rows.PackKnownSaid :=
  OpenClaim.holds_of_cond 3 Tryd.f3 rfl rfl rfl rfl rfl rfl rfl ⟨rfl, rfl, rfl, rfl, rfl⟩ rfl rfl rfl rfl rfl (by kernel_rfl) Tryd.func3 (by kernel_rfl)
    (of_decide_eq_true (by kernel_rfl)) (by unfold Func.isWrapper; first | (rw [if_pos (by decide +kernel)]; kernel_rfl) | (rw [if_neg (by decide +kernel)]; exact ⟨rfl, rfl⟩))
    (fun os started H enc _ F => by rw [OpenClaim.pre_eq_preRow]; exact lifted os started H enc F)

theorem plain (f : FuncId) (fn : Func) (hf : Tryd.pinned.checked.prog.funcNamed "publican/publicanlaw3.PackKnown" = some f) (hfn : Tryd.pinned.checked.prog.funcs[f]? = some fn) :
    false = Tryd.pinned.checked.prog.looks [] ∧ ∀ (j : Nat) t, fn.params[j]? = some t → Tryd.pinned.checked.prog.wantsStandIn t = false := by
  obtain rfl : f = 3 := Option.some.inj ((show Tryd.prog.funcNamed "publican/publicanlaw3.PackKnown" = some 3 by kernel_rfl).symm.trans hf) |>.symm
  obtain rfl : fn = Tryd.f3 := (Option.some.inj (Tryd.func3.symm.trans hfn)).symm
  refine ⟨by kernel_rfl, fun j t ht => ?_⟩
  rw [Tryd.params3] at ht
  simp at ht

theorem card : Rows.PackKnownCardSaid :=
  Claim7.holds_tied_plain_at .later [] _ _ _ _ said (fun _ h => by cases h) (by kernel_rfl) (fun _ h => by cases h) packKnown_row_tie rfl ⟨rfl, rfl⟩ (by kernel_rfl) rfl plain (by kernel_rfl)

end Go.Proofs.YtgjimoihbbogdaaDoor.packKnown
namespace Go.Proofs.YtgjimoihbbogdaaDoor

theorem PackKnown_holds : Rows.PackKnownCardSaid := packKnown.card

end Go.Proofs.YtgjimoihbbogdaaDoor
