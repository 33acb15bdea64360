/- Proved: the law LexKnown of package publicanlaw9 returns true (it takes no argument), whatever memory it starts in, on every schedule; the table of signs of package lex holds what the program's text lays (the card ties it to that text). -/
import Derived.Test.YtnjokafpolnjhaaDoorCards
import Derived.Test.YtnjokafpolnjhaaDoorTie
import Derived.Test.YtnjokafpolnjhaaDoorSh
import Derived.Deep.OwnRows
import Derived.Laws.BytesArg
namespace Go.Proofs.YtnjokafpolnjhaaDoor.lexKnown
open Go.ChangeMaps (open_string shut_string)
open Go.ChangeShapes Go.WideShapes Go.ChangeAt Go.RowKit
set_option linter.unusedVariables false
set_option linter.unusedSimpArgs false

theorem byteInfo : (Tryd.prog.info? 5).map (fun i => (i.zero, i.size, i.bytes)) = some (some (.int .u8 0), 1, 1) := by kernel_rfl
theorem made (w : World) (n : Nat) (hn : n ≤ 100000) : ∃ Z S, (Instr.makeSlice 27 (.int .i64 (n : Nat)) (.int .i64 (n : Nat))).run Tryd.prog w = .ok (.slice (some ⟨w.heap.size, 0, none⟩) n n) (w.alloc (.cells Z 5)) ∧
    (convert 27 9 (.slice (some ⟨w.heap.size, 0, none⟩) n n)).run Tryd.prog (w.alloc (.cells Z 5)) = .ok (.string S) (w.alloc (.cells Z 5)) ∧ S.size = n := by
  refine ⟨madeCells #[.int .u8 0] n, strOfNums (List.replicate n 0), run_make_row' 27 5 (.int .u8 0) 1 Tryd.underlying27 byteInfo rfl .i64 .i64 n (by omega) (by omega) w, ?_, ?_⟩
  · refine run_convert_bytes_arg (P := Tryd.prog) _ 27 5 Tryd.underlying27 Tryd.underlying5 w.heap.size 0 n n (List.replicate n 0) (by simp) (fun i hi => ?_) 9 Tryd.underlying9
    rw [cell_of_row _ _ _ _ _ _ (heap_alloc_new w _), ← Array.getElem?_toList, toList_madeCells_one]
    simp [hi]
  · simp [strOfNums, ByteArray.size]
theorem kn1 : cutF ⟨#[52, 53, 48, 51, 53, 57, 57, 54, 50, 55, 51, 55, 48, 52, 57, 54]⟩ 0 = ([(3, 16, 4503599627370496, 0), (0, 0, 0, 16)], none) := by decide +kernel
theorem kn2 : cutF ⟨#[120, 32, 52, 53, 48, 51, 53, 57, 57, 54, 50, 55, 51, 55, 48, 52, 57, 55]⟩ 0 = ([], some 2) := by decide +kernel
theorem kn3 : cutF ⟨#[36, 49, 46, 53, 48, 53]⟩ 0 = ([], some 2) := by decide +kernel
set_option maxRecDepth 100000 in
set_option maxHeartbeats 4000000 in
theorem walk (w : World) (hT : Tab w) : Calls Tryd.prog 3 #[] w fun e w' => e = .returned (.bool true) ∧ Below w.heap.size w w' := by
  have TH := hid hT
  clear hT
  go_enter Tryd.func3, Tryd.ntmps3
  go_wp2_with fail
  refine Calls.mono (awake_any _ TH.out) ?_
  rintro e w0 ⟨rfl, b0⟩
  have T0 := hid <| TH.out.next b0
  have B0 := hid b0
  clear b0 TH
  obtain ⟨Z, S, hm, hc, hS⟩ := made w0 8193 (by decide)
  have NB := hid ((Below.refl _ _).alloc (Nat.le_refl _) (.cells Z 5) : Below w0.heap.size w0 (w0.alloc (.cells Z 5)))
  have hm : (Instr.makeSlice 27 (.int .i64 8193) (.int .i64 8193)).run Tryd.prog w0 = .ok (.slice (some ⟨w0.heap.size, 0, none⟩) 8193 8193) (w0.alloc (.cells Z 5)) := hm
  have CL := hid fun w => cut_long S w (by omega) (by omega)
  clear hS
  go_wp2_with fail
  generalize w0.alloc (.cells Z 5) = w1 at *
  refine Calls.mono (CL.out _) ?_
  rintro e w2 ⟨rfl, rfl⟩
  have T1 := hid <| T0.out.next NB.out
  have B1 := hid <| nextB B0.out NB.out
  clear hm hc T0 B0 NB
  go_wp2_with fail
  refine Calls.mono (cut_yes _ _ _ (by decide) T1.out kn1) ?_
  rintro e w2 ⟨⟨v2, rfl, o2⟩, b2⟩
  have T2 := hid <| T1.out.next b2
  have O2 := hid o2
  have B2 := hid <| nextB B1.out b2
  clear o2 b2 T1 B1
  go_wp2_with fail
  refine Calls.mono (cut_no _ _ _ _ (by decide) T2.out kn2) ?_
  rintro e w3 ⟨rfl, b3⟩
  have T3 := hid <| T2.out.next b3
  have O3 := hid <| O2.out.next b3
  have B3 := hid <| nextB B2.out b3
  clear b3 T2 O2 B2
  go_wp2_with fail
  refine Calls.mono (cut_no _ _ _ _ (by decide) T3.out kn3) ?_
  rintro e w4 ⟨rfl, b4⟩
  have B4 := hid <| nextB B3.out b4
  obtain ⟨a1, c1, g1, r1⟩ := Rd4.of (O3.out.next b4)
  obtain rfl := r1.v
  obtain rfl := r1.a (by decide)
  have e2 : w4.cell? ⟨g1, 2, none⟩ = some (.int .i64 4503599627370496) := r1.c2 0 _ rfl
  clear r1 b4 O3 T3 B3
  go_wp2_with fail
  go_ret
  exact ⟨rfl, B4.out⟩


theorem contract (H : Type) (enc : TypeId × Value → H) (W : World) (base : Nat) (args : Array Value) (ds gs : List (DataW H)) (before : List MemPlace)
    (hval : ∀ (j : Nat) t v, Tryd.f3.params[j]? = some t → args[j]? = some v → Value.okWide Tryd.prog W .any base t v)
    (hW : DataW.Whole enc Tryd.prog Tryd.f3.params.toList Rows.lexKnownSpec.vars false W args.toList ds gs before) (hL : laidMetH Tryd.prog Rows.lexKnownRow.laid W) :
    Calls Tryd.prog 3 args W fun e W' => ∃ v, e = .returned v ∧ Rows.lexKnownSpec.post enc Tryd.prog Tryd.f3 false true false false W args v W' := by
  have hW' := hW
  obtain ⟨p, q, hA0, hV, rfl, hfz, hnd⟩ := hW
  have hA : DataW.TrodAll enc Tryd.prog W 0 (fun _ => true) true Tryd.f3.params.toList args.toList ds p := hA0
  have hT : Tab W := tab_of hL
  rw [Tryd.params3] at hA
  obtain ⟨rfl, rfl, rfl⟩ := trodAll_none hA
  obtain ⟨rfl, rfl⟩ := trodVars_none hV
  refine (walk W hT).mono fun e W' ⟨he, bel⟩ => ?_
  subst he
  exact ⟨_, rfl, _, _, _, [], _, [], hW', trodAll_mk1 (shut_bool Tryd.underlying4 _), trodAll_mk0, rfl, bel.frame _, fun h => by cases h⟩

/-- A world for the witness: the table laid. -/
noncomputable def laidWorld (os : Os) : World :=
  { World.holding Tryd.prog os ⟨#[], #[], []⟩ with heap := (World.holding Tryd.prog os ⟨#[], #[], []⟩).heap.modify 0 fun
      | .cells _ t frozen => .cells (sgl.map fun z => Value.string (tx z)).toArray t frozen
      | o => o }
theorem laid_met (os : Os) : laidMet Tryd.prog Rows.lexKnownRow.laid ((laidWorld os).forCall (fun _ _ => 0) ⟨#[], #[], []⟩).memory :=
  laidMet_of_run' 8 (by kernel_rfl) (by kernel_rfl)
theorem reads (os : Os) {H : Type} (enc : TypeId × Value → H) : ∃ places, DataW.whole enc Tryd.prog ((laidWorld os).forCall (fun _ _ => 0) ⟨#[], #[], []⟩).memory Tryd.f3.params.toList Rows.lexKnownSpec.vars false (#[] : Array Value).toList 8 = some ([], [], places) :=
  ⟨[], by kernel_rfl⟩

set_option maxRecDepth 100000 in
theorem lifted (os : Os) (started : os.Started) (H : Type) (enc : TypeId × Value → H) (F : Stop.Interp) :
    ReturnsInHanded {} Tryd.checked os 3 .any ((OpenSpec.ofChange Rows.lexKnownSpec).preRow enc Tryd.prog Tryd.f3 Rows.lexKnownRow.domain false Rows.lexKnownRow.laid) (((OpenSpec.ofChange Rows.lexKnownSpec).at F).post enc Tryd.prog Tryd.f3 false true false false) := by
  obtain ⟨places, hx⟩ := reads os enc
  refine returnsInHanded_of_row (C := Tryd.checked) (s := OpenSpec.ofChange Rows.lexKnownSpec) own started (by kernel_rfl) Tryd.func3
    (witness_row_at (enc := enc) (C := Tryd.checked) false (laidWorld os) #[] rfl (by kernel_rfl) (by kernel_rfl) (by kernel_rfl)
      (OpenSpec.preRow_of_cond 8 hx (by kernel_rfl) (fun k hk => by cases hk) (by kernel_rfl) (laid_met os))) ?_
  intro W base args ds gs before hval hW _ _ _ hL _ _
  exact contract H enc W base args ds gs before hval hW hL

theorem said : Rows.LexKnownSaid :=
  OpenClaim.holds_of_cond 3 Tryd.f3 rfl rfl rfl rfl rfl rfl rfl ⟨rfl, rfl, rfl, rfl, rfl⟩ rfl rfl rfl rfl rfl (by kernel_rfl) Tryd.func3 (by kernel_rfl)
    (of_decide_eq_true (by kernel_rfl)) (by unfold Func.isWrapper; first | (rw [if_pos (by decide +kernel)]; kernel_rfl) | (rw [if_neg (by decide +kernel)]; exact ⟨rfl, rfl⟩))
    (fun os started H enc _ F => by rw [OpenClaim.pre_eq_preRow]; exact lifted os started H enc F)

theorem plain (f : FuncId) (fn : Func) (hf : Tryd.pinned.checked.prog.funcNamed "publican/publicanlaw9.LexKnown" = some f) (hfn : Tryd.pinned.checked.prog.funcs[f]? = some fn) :
    false = Tryd.pinned.checked.prog.looks [] ∧ ∀ (j : Nat) t, fn.params[j]? = some t → Tryd.pinned.checked.prog.wantsStandIn t = false := by
  obtain rfl : f = 3 := Option.some.inj ((show Tryd.prog.funcNamed "publican/publicanlaw9.LexKnown" = some 3 by kernel_rfl).symm.trans hf) |>.symm
  obtain rfl : fn = Tryd.f3 := (Option.some.inj (Tryd.func3.symm.trans hfn)).symm
  refine ⟨by kernel_rfl, fun j t ht => ?_⟩
  rw [Tryd.params3] at ht
  simp at ht

theorem card : Rows.LexKnownCardSaid :=
  Claim7.holds_tied_plain_at .later [] _ _ _ _ said (fun _ h => by cases h) (by kernel_rfl) (fun _ h => by cases h) lexKnown_row_tie rfl ⟨rfl, rfl⟩ (by kernel_rfl) rfl plain (by kernel_rfl)

end Go.Proofs.YtnjokafpolnjhaaDoor.lexKnown
namespace Go.Proofs.YtnjokafpolnjhaaDoor

theorem LexKnown_holds : Rows.LexKnownCardSaid := lexKnown.card

end Go.Proofs.YtnjokafpolnjhaaDoor
