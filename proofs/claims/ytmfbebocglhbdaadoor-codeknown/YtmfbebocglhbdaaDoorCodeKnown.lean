/- Proved: the law CodeKnown of package publicanlaw14 returns true (chapter 14 of a few instructions), whatever memory it starts in, on every schedule; the five tables that it reads (code's rows, pack's halves, strconv's uint64pow10, math/bits' two) hold what the program's text lays (the card ties them to that text). -/
import Derived.Test.YtmfbebocglhbdaaDoorCards
import Derived.Test.YtmfbebocglhbdaaDoorTie
import Derived.Test.YtmfbebocglhbdaaDoorDu
namespace Go.Proofs.YtmfbebocglhbdaaDoor.codeKnown
open Go.ChangeMaps (open_string shut_string)
open Go.ChangeShapes Go.WideShapes Go.ChangeAt Go.RowKit
set_option linter.unusedVariables false
set_option linter.unusedSimpArgs false

theorem its1 : itS 1 = ⟨#[49]⟩ := by
  unfold itS Lib.itoa
  rw [if_neg (by decide), Lib.decDigits, dif_pos (by decide)]
  rfl
theorem its2 : itS 2 = ⟨#[50]⟩ := by
  unfold itS Lib.itoa
  rw [if_neg (by decide), Lib.decDigits, dif_pos (by decide)]
  rfl
theorem its3 : itS 3 = ⟨#[51]⟩ := by
  unfold itS Lib.itoa
  rw [if_neg (by decide), Lib.decDigits, dif_pos (by decide)]
  rfl
theorem sh1 : shP 19 1 2 3 = ⟨#[102, 105, 114, 115, 116, 32, 49, 32, 50, 32, 51]⟩ := by
  unfold shP
  rw [its1, its2, its3]
  decide +kernel
theorem sh2 : shP 23 9 0 0 = ⟨#[104, 97, 108, 116]⟩ := by
  unfold shP
  rw [if_pos (by decide)]
  decide
theorem sh3 : shP (-1) 0 0 0 = ⟨#[]⟩ := by
  unfold shP
  rw [if_pos (by decide)]
  decide
set_option maxRecDepth 100000 in
set_option maxHeartbeats 8000000 in
theorem walk (w : World) (hT : Tt w) : Calls Tryd.prog 3 #[] w fun e w' => e = .returned (.bool true) ∧ Below w.heap.size w w' := by
  have T := hid hT
  have K1 := hid (awake_any w hT)
  clear hT
  go_enter Tryd.func3, Tryd.ntmps3
  go_wp2_with fail
  (with_reducible refine Calls.mono K1.out ?_)
  rintro e w1 ⟨rfl, b1⟩
  have T1 := hid (T.out.next b1)
  have B1 := hid b1
  clear b1 K1
  have K2 := hid (code_Decode_any w1 none 0 0 [] (By.empty w1) (by decide) T1.out.sm)
  have E := hid (decP_no (bs := []) (fun h => by simp at h))
  go_wp2_with fail
  (with_reducible refine Calls.mono K2.out ?_)
  rintro e w2 h2
  obtain ⟨v2, rfl, p2, b2⟩ := h2
  rw [E.out.2]
  obtain ⟨a0, m0, c0, a1, m1, c1, a2, m2, c2, a3, m3, c3, a4, m4, c4, a5, m5, c5, a6, m6, c6, ev, -⟩ := p2.ex
  subst ev
  have B2 := hid (nextB B1.out b2)
  clear p2 b2 K2 T1 B1
  have A3 := hid (nextB B2.out (allocB w2 (.cells #[.slice a0 m0 c0, .slice a1 m1 c1, .slice a2 m2 c2, .slice a3 m3 c3, .slice a4 m4 c4, .slice a5 m5 c5, .slice a6 m6 c6] 29)))
  go_upto_region 4 with fail
  clear B2
  generalize World.alloc w2 _ = w3 at *
  have T3 := hid (T.out.next A3.out)
  go_wp2_with fail
  refine Calls.mono (code_Name_any 24 w3 T3.out.rt) ?_
  rintro e w4 ⟨rfl, b4⟩
  rw [show opN 24 = ⟨#[]⟩ from by decide]
  have B4 := hid (nextB A3.out b4)
  have T4 := hid (T3.out.next b4)
  clear b4
  go_wp2_with fail
  refine Calls.mono (code_Name_any (-1) w4 T4.out.rt) ?_
  rintro e w5 ⟨rfl, b5⟩
  rw [show opN (-1) = ⟨#[]⟩ from by decide]
  have B5 := hid (nextB B4.out b5)
  have T5 := hid (T4.out.next b5)
  clear b5
  go_wp2_with fail
  refine Calls.mono (code_Show_any 19 1 2 3 w5 T5.out.rt T5.out.pw (okI _ (by decide)) (okI _ (by decide)) (okI _ (by decide))) ?_
  rintro e w6 ⟨rfl, b6⟩
  rw [sh1]
  have B6 := hid (nextB B5.out b6)
  have T6 := hid (T5.out.next b6)
  clear b6
  go_wp2_with fail
  refine Calls.mono (code_Show_any 23 9 0 0 w6 T6.out.rt T6.out.pw (okI _ (by decide)) (okI _ (by decide)) (okI _ (by decide))) ?_
  rintro e w7 ⟨rfl, b7⟩
  rw [sh2]
  have B7 := hid (nextB B6.out b7)
  have T7 := hid (T6.out.next b7)
  clear b7
  go_wp2_with fail
  refine Calls.mono (code_Show_any (-1) 0 0 0 w7 T7.out.rt T7.out.pw (okI _ (by decide)) (okI _ (by decide)) (okI _ (by decide))) ?_
  rintro e w8 ⟨rfl, b8⟩
  rw [sh3]
  go_wp2_with fail
  go_ret
  exact ⟨rfl, nextB B7.out b8⟩


set_option maxRecDepth 100000 in
theorem contract (H : Type) (enc : TypeId × Value → H) (W : World) (base : Nat) (args : Array Value) (ds gs : List (DataW H)) (before : List MemPlace)
    (hval : ∀ (j : Nat) t v, Tryd.f3.params[j]? = some t → args[j]? = some v → Value.okWide Tryd.prog W .any base t v)
    (hW : DataW.Whole enc Tryd.prog Tryd.f3.params.toList Rows.codeKnownSpec.vars false W args.toList ds gs before) (hL : laidMetH Tryd.prog Rows.codeKnownRow.laid W) :
    Calls Tryd.prog 3 args W fun e W' => ∃ v, e = .returned v ∧ Rows.codeKnownSpec.post enc Tryd.prog Tryd.f3 false true false false W args v W' := by
  have hW' := hW
  obtain ⟨p, q, hA0, hV, rfl, hfz, hnd⟩ := hW
  have hA : DataW.TrodAll enc Tryd.prog W 0 (fun _ => true) true Tryd.f3.params.toList args.toList ds p := hA0
  have hT : Tt W := tbs_of hL
  rw [Tryd.params3] at hA
  obtain ⟨rfl, rfl, rfl⟩ := trodAll_none hA
  obtain ⟨rfl, rfl⟩ := trodVars_none hV
  refine (walk W hT).mono fun e W' ⟨he, bel⟩ => ?_
  subst he
  exact ⟨_, rfl, _, _, _, [], _, [], hW', trodAll_mk1 (shut_bool Tryd.underlying4 _), trodAll_mk0, rfl, bel.frame _, fun h => by cases h⟩

set_option maxRecDepth 100000 in
theorem laid_met (os : Os) : laidMet Tryd.prog Rows.codeKnownRow.laid ((laidWorld os).forCall (fun _ _ => 0) ⟨#[], #[], []⟩).memory :=
  laidMet_of_run' 8 (by kernel_rfl) (by kernel_rfl)
set_option maxRecDepth 100000 in
theorem reads (os : Os) {H : Type} (enc : TypeId × Value → H) : ∃ places, DataW.whole enc Tryd.prog ((laidWorld os).forCall (fun _ _ => 0) ⟨#[], #[], []⟩).memory Tryd.f3.params.toList Rows.codeKnownSpec.vars false (#[] : Array Value).toList 8 = some ([], [], places) :=
  ⟨[], by kernel_rfl⟩

set_option maxRecDepth 100000 in
theorem lifted (os : Os) (started : os.Started) (H : Type) (enc : TypeId × Value → H) (F : Stop.Interp) :
    ReturnsInHanded {} Tryd.checked os 3 .any ((OpenSpec.ofChange Rows.codeKnownSpec).preRow enc Tryd.prog Tryd.f3 Rows.codeKnownRow.domain false Rows.codeKnownRow.laid) (((OpenSpec.ofChange Rows.codeKnownSpec).at F).post enc Tryd.prog Tryd.f3 false true false false) := by
  obtain ⟨places, hx⟩ := reads os enc
  refine returnsInHanded_of_row (C := Tryd.checked) (s := OpenSpec.ofChange Rows.codeKnownSpec) own started (by kernel_rfl) Tryd.func3
    (witness_row_at (enc := enc) (C := Tryd.checked) false (laidWorld os) #[] rfl (by kernel_rfl) (by kernel_rfl) (by kernel_rfl)
      (OpenSpec.preRow_of_cond 8 hx (by kernel_rfl) (fun k hk => by cases hk) (by kernel_rfl) (laid_met os))) ?_
  intro W base args ds gs before hval hW _ _ _ hL _ _
  exact contract H enc W base args ds gs before hval hW hL

set_option maxRecDepth 100000 in
theorem said : Rows.CodeKnownSaid :=
  OpenClaim.holds_of_cond 3 Tryd.f3 rfl rfl rfl rfl rfl rfl rfl ⟨rfl, rfl, rfl, rfl, rfl⟩ rfl rfl rfl rfl rfl (by kernel_rfl) Tryd.func3 (by kernel_rfl)
    (of_decide_eq_true (by kernel_rfl)) (by unfold Func.isWrapper; first | (rw [if_pos (by decide +kernel)]; kernel_rfl) | (rw [if_neg (by decide +kernel)]; exact ⟨rfl, rfl⟩))
    (fun os started H enc _ F => by rw [OpenClaim.pre_eq_preRow]; exact lifted os started H enc F)

set_option maxRecDepth 100000 in
theorem plain (f : FuncId) (fn : Func) (hf : Tryd.pinned.checked.prog.funcNamed "publican/publicanlaw14.CodeKnown" = some f) (hfn : Tryd.pinned.checked.prog.funcs[f]? = some fn) :
    false = Tryd.pinned.checked.prog.looks [] ∧ ∀ (j : Nat) t, fn.params[j]? = some t → Tryd.pinned.checked.prog.wantsStandIn t = false := by
  obtain rfl : f = 3 := Option.some.inj ((show Tryd.prog.funcNamed "publican/publicanlaw14.CodeKnown" = some 3 by kernel_rfl).symm.trans hf) |>.symm
  obtain rfl : fn = Tryd.f3 := (Option.some.inj (Tryd.func3.symm.trans hfn)).symm
  refine ⟨by kernel_rfl, fun j t ht => ?_⟩
  rw [Tryd.params3] at ht
  simp at ht

set_option maxRecDepth 100000 in
theorem card : Rows.CodeKnownCardSaid :=
  Claim7.holds_tied_plain_at .later [] _ _ _ _ said (fun _ h => by cases h) (by kernel_rfl) (fun _ h => by cases h) codeKnown_row_tie rfl ⟨rfl, rfl⟩ (by kernel_rfl) rfl plain (by kernel_rfl)

end Go.Proofs.YtmfbebocglhbdaaDoor.codeKnown
namespace Go.Proofs.YtmfbebocglhbdaaDoor

theorem CodeKnown_holds : Rows.CodeKnownCardSaid := codeKnown.card

end Go.Proofs.YtmfbebocglhbdaaDoor
