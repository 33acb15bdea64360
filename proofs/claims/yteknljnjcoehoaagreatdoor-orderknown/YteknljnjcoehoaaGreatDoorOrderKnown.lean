/- Proved: the law OrderKnown of package publicanlaw12 returns true (it takes no input), whatever memory it starts in, on every schedule; the table of what may be reckoned of package typ holds what the program's text lays (the card ties it to that text). -/
import Derived.Test.YteknljnjcoehoaaGreatDoorCards
import Derived.Test.YteknljnjcoehoaaGreatDoorTie
import Derived.Test.YteknljnjcoehoaaGreatDoorPq
import Derived.Test.YteknljnjcoehoaaGreatDoorKR
namespace Go.Proofs.YteknljnjcoehoaaGreatDoor.orderKnown
open Go.ChangeMaps (open_string shut_string)
open Go.ChangeShapes Go.WideShapes Go.ChangeAt Go.RowKit
set_option linter.unusedVariables false
set_option linter.unusedSimpArgs false

def ta : ByteArray := ⟨#[114, 117, 108, 101, 32, 97, 32, 99, 111, 117, 110, 116, 32, 61, 32, 98, 59, 32, 114, 117, 108, 101, 32, 98, 32, 99, 111, 117, 110, 116, 32, 61, 32, 97, 59]⟩
def tb : ByteArray := ⟨#[114, 117, 108, 101, 32, 97, 32, 109, 111, 110, 101, 121, 32, 61, 32, 49, 59]⟩
theorem ta_ok : okX ta = true ∧ ckF (trX ta).kids = none ∧ sorG (trX ta).kids = none ∧ rawR (trX ta).kids ⟨#[99]⟩ = [] := by decide +kernel
theorem tb_ok : okX tb = true ∧ (ckF (trX tb).kids).isSome = true := by decide +kernel
set_option maxRecDepth 100000 in
set_option maxHeartbeats 8000000 in
theorem walk (w : World) (hT : TabM w) : Calls Tryz.prog 3 #[] w fun e w' => e = .returned (.bool true) ∧ Below w.heap.size w w' := by
  have KA := hid (awake_any w hT)
  have K1 := hid (fun W => read_any ta W (by decide))
  have K2 := hid (fun W => read_any tb W (by decide))
  have G1 := hid (good_tr ta_ok.1)
  have L1 := hid (len_tr (t := ta) (by decide))
  have D1 := hid (show nodT (trX ta) ≤ 90000 from Nat.le_trans (nod_tr (t := ta) (by decide)) (by decide))
  have G2 := hid (good_tr tb_ok.1)
  have L2 := hid (len_tr (t := tb) (by decide))
  have D2 := hid (show nodT (trX tb) ≤ 90000 from Nat.le_trans (nod_tr (t := tb) (by decide)) (by decide))
  have SA := hid (sort_ring ta_ok.2.1 ta_ok.2.2.1)
  have NA := hid (show namR (trX ta).kids ⟨#[99]⟩ = [] from by rw [namR_raw, ta_ok.2.2.2, srtN_nil])
  have SB := hid (show sortR (trX tb).kids = none from by
    cases h : ckF (trX tb).kids with
    | some a => exact sort_bad h
    | none => have := tb_ok.2; rw [h] at this; cases this)
  have TA := hid (step_bad SA.out)
  have DA := hid (deep_bad TA.out)
  unfold RdX at K1 K2
  simp only [ta_ok.1] at K1
  simp only [tb_ok.1] at K2
  generalize trX ta = t at *
  generalize trX tb = m at *
  have KS := hid (fun W (b : Below w.heap.size w W) S v hd => Sort_any t G1.out.1 G1.out.2 L1.out D1.out S W v hd (hT.next b))
  have KT := hid (fun W (b : Below w.heap.size w W) S v hd => Steps_any t G1.out.1 G1.out.2 L1.out D1.out S W v hd (hT.next b))
  have KD := hid (fun W (b : Below w.heap.size w W) S v hd => Deep_any t G1.out.1 G1.out.2 L1.out D1.out S W v hd (hT.next b))
  have KN := hid (fun W S v hd => Names_any t G1.out.2 L1.out D1.out ⟨#[99]⟩ S W v hd)
  have KM := hid (fun W (b : Below w.heap.size w W) S v hd => Sort_any m G2.out.1 G2.out.2 L2.out D2.out S W v hd (hT.next b))
  unfold SoP at KS KM
  unfold NmP at KN
  rw [SA.out] at KS
  rw [SB.out] at KM
  rw [TA.out] at KT
  rw [DA.out] at KD
  rw [NA.out] at KN
  dsimp only [errS, Option.getD_none] at KS KM KT KD
  clear hT
  unfold ta at K1
  unfold tb at K2
  go_enter Tryz.func3, Tryz.ntmps3
  go_upto_region 3 with (go_at_call 15; (with_reducible refine Calls.mono KA.out ?_); rintro e w3 ⟨rfl, b3⟩; have B3 := hid b3; clear b3)
  have k1 := hid (K1.out w3)
  go_upto_region 4 with (go_at_call 16; (with_reducible refine Calls.mono k1.out ?_); rintro e w4 ⟨b4, sa4, sb4, sm4, sc4, sn4, sd4, rfl, n4, m4⟩; have B4 := hid (nextB B3.out b4); have N4 := hid n4; clear b4 n4 m4)
  have bX := (show Below w4.heap.size w4 ((w4.alloc (.cells #[.string t.op, .string t.name, .int .i64 (t.kind : Nat), .int .i64 t.n, .int .i64 (t.pl : Nat), .slice sa4 sm4 sc4] 26)).alloc (.cells #[.string t.op, .string t.name, .int .i64 (t.kind : Nat), .int .i64 t.n, .int .i64 (t.pl : Nat), .slice sb4 sn4 sd4] 29)) from ((Below.refl _ _).alloc (Nat.le_refl _) _).alloc (by simp) _)
  have B5 := hid (nextB B4.out bX)
  have X5 := hid (show B6 ((w4.alloc (.cells #[.string t.op, .string t.name, .int .i64 (t.kind : Nat), .int .i64 t.n, .int .i64 (t.pl : Nat), .slice sa4 sm4 sc4] 26)).alloc (.cells #[.string t.op, .string t.name, .int .i64 (t.kind : Nat), .int .i64 t.n, .int .i64 (t.pl : Nat), .slice sb4 sn4 sd4] 29)) w4.heap.size (.string t.op) (.string t.name) (.int .i64 (t.kind : Nat)) (.int .i64 t.n) (.int .i64 (t.pl : Nat)) (.slice sa4 sm4 sc4) from (B6.new w4 26 (.string t.op) (.string t.name) (.int .i64 (t.kind : Nat)) (.int .i64 t.n) (.int .i64 (t.pl : Nat)) (.slice sa4 sm4 sc4)).next ((Below.refl _ _).alloc (Nat.le_refl _) _))
  have N5 := hid (N4.out.gwY bX)
  clear bX
  generalize World.alloc (World.alloc w4 _) _ = w5 at *
  generalize w4.heap.size = q5 at *
  clear N4 B4 k1
  have k2 := hid (K2.out w5)
  go_upto_region 5 with (go_at_call 16; (with_reducible refine Calls.mono k2.out ?_); rintro e w6 ⟨b6, sa6, sb6, sm6, sc6, sn6, sd6, rfl, n6, m6⟩; have B6' := hid (nextB B5.out b6); have X6 := hid (X5.out.next b6); have N6 := hid (N5.out.gwY b6); have M6 := hid n6; clear b6 n6 m6)
  have bX := (show Below w6.heap.size w6 ((w6.alloc (.cells #[.string m.op, .string m.name, .int .i64 (m.kind : Nat), .int .i64 m.n, .int .i64 (m.pl : Nat), .slice sa6 sm6 sc6] 26)).alloc (.cells #[.string m.op, .string m.name, .int .i64 (m.kind : Nat), .int .i64 m.n, .int .i64 (m.pl : Nat), .slice sb6 sn6 sd6] 29)) from ((Below.refl _ _).alloc (Nat.le_refl _) _).alloc (by simp) _)
  have B7 := hid (nextB B6'.out bX)
  have X7 := hid (X6.out.next bX)
  have N7 := hid (N6.out.gwY bX)
  have M7 := hid (M6.out.gwY bX)
  have Y7 := hid (show B6 ((w6.alloc (.cells #[.string m.op, .string m.name, .int .i64 (m.kind : Nat), .int .i64 m.n, .int .i64 (m.pl : Nat), .slice sa6 sm6 sc6] 26)).alloc (.cells #[.string m.op, .string m.name, .int .i64 (m.kind : Nat), .int .i64 m.n, .int .i64 (m.pl : Nat), .slice sb6 sn6 sd6] 29)) w6.heap.size (.string m.op) (.string m.name) (.int .i64 (m.kind : Nat)) (.int .i64 m.n) (.int .i64 (m.pl : Nat)) (.slice sa6 sm6 sc6) from (B6.new w6 26 (.string m.op) (.string m.name) (.int .i64 (m.kind : Nat)) (.int .i64 m.n) (.int .i64 (m.pl : Nat)) (.slice sa6 sm6 sc6)).next ((Below.refl _ _).alloc (Nat.le_refl _) _))
  clear bX X5 N5 X6 N6 M6 k2
  generalize World.alloc (World.alloc w6 _) _ = w7 at *
  generalize w6.heap.size = q7 at *
  have k3 := hid (KS.out w7 B7.out _ _ N7.out)
  obtain ⟨x0, x1, x2, x3, x4, x5, xz⟩ := X7.out
  go_upto_region 6 with (go_at_call 17; (with_reducible refine Calls.mono k3.out ?_); rintro e w8 ⟨v8, rfl, o8, b8⟩; have B8 := hid (nextB B7.out b8); have X8 := hid (X7.out.next b8); have Y8 := hid (Y7.out.next b8); have N8 := hid (N7.out.gwY b8); have M8 := hid (M7.out.gwY b8); obtain ⟨a8, c8, ev8⟩ := own_slice o8.row; subst ev8; clear b8 o8)
  clear x0 x1 x2 x3 x4 x5 xz k3 X7 Y7 N7 M7
  have k4 := hid (KT.out w8 B8.out _ _ N8.out)
  obtain ⟨x0, x1, x2, x3, x4, x5, xz⟩ := X8.out
  go_upto_region 7 with (go_at_call 18; (with_reducible refine Calls.mono k4.out ?_); rintro e w9 ⟨rfl, b9⟩; have B9 := hid (nextB B8.out b9); have X9 := hid (X8.out.next b9); have Y9 := hid (Y8.out.next b9); have N9 := hid (N8.out.gwY b9); have M9 := hid (M8.out.gwY b9); clear b9)
  clear x0 x1 x2 x3 x4 x5 xz k4 X8 Y8 N8 M8
  have k5 := hid (KD.out w9 B9.out _ _ N9.out)
  obtain ⟨x0, x1, x2, x3, x4, x5, xz⟩ := X9.out
  go_upto_region 8 with (go_at_call 19; (with_reducible refine Calls.mono k5.out ?_); rintro e wa ⟨rfl, ba⟩; have BA := hid (nextB B9.out ba); have XA := hid (X9.out.next ba); have YA := hid (Y9.out.next ba); have NA := hid (N9.out.gwY ba); have MA := hid (M9.out.gwY ba); clear ba)
  clear x0 x1 x2 x3 x4 x5 xz k5 X9 Y9 N9 M9
  have k6 := hid (KM.out wa BA.out _ _ MA.out)
  obtain ⟨x0, x1, x2, x3, x4, x5, xz⟩ := YA.out
  go_upto_region 9 with (go_at_call 17; (with_reducible refine Calls.mono k6.out ?_); rintro e wb ⟨vb, rfl, ob, bb⟩; have BB := hid (nextB BA.out bb); have XB := hid (XA.out.next bb); have NB := hid (NA.out.gwY bb); obtain ⟨ab, cb, evb⟩ := own_slice ob.row; subst evb; clear bb ob)
  clear x0 x1 x2 x3 x4 x5 xz k6 XA YA NA MA
  have k7 := hid (KN.out wb _ _ NB.out)
  obtain ⟨x0, x1, x2, x3, x4, x5, xz⟩ := XB.out
  go_wp2_with (go_at_call 20; (with_reducible refine Calls.mono k7.out ?_); rintro e wc ⟨vc, rfl, oc, bc⟩; have BC := hid (nextB BB.out bc); obtain ⟨ac, cc, evc⟩ := own_slice oc.row; subst evc; clear bc oc)
  go_returns
  exact ⟨rfl, BC.out⟩


set_option maxRecDepth 100000 in
theorem contract (H : Type) (enc : TypeId × Value → H) (W : World) (base : Nat) (args : Array Value) (ds gs : List (DataW H)) (before : List MemPlace)
    (hval : ∀ (j : Nat) t v, Tryz.f3.params[j]? = some t → args[j]? = some v → Value.okWide Tryz.prog W .any base t v)
    (hW : DataW.Whole enc Tryz.prog Tryz.f3.params.toList Rows.orderKnownSpec.vars false W args.toList ds gs before) (hL : laidMetH Tryz.prog Rows.orderKnownRow.laid W) :
    Calls Tryz.prog 3 args W fun e W' => ∃ v, e = .returned v ∧ Rows.orderKnownSpec.post enc Tryz.prog Tryz.f3 false true false false W args v W' := by
  have hW' := hW
  obtain ⟨p, q, hA0, hV, rfl, hfz, hnd⟩ := hW
  have hA : DataW.TrodAll enc Tryz.prog W 0 (fun _ => true) true Tryz.f3.params.toList args.toList ds p := hA0
  have hT : TabM W := tabM_of hL
  rw [Tryz.params3] at hA
  obtain ⟨rfl, rfl, rfl⟩ := trodAll_none hA
  obtain ⟨rfl, rfl⟩ := trodVars_none hV
  refine (walk W hT).mono fun e W' ⟨he, bel⟩ => ?_
  subst he
  exact ⟨_, rfl, _, _, _, [], _, [], hW', trodAll_mk1 (shut_bool Tryz.underlying4 _), trodAll_mk0, rfl, bel.frame _, fun h => by cases h⟩

/-- A world for the witness: the table laid. -/
noncomputable def laidWorld (os : Go.Os) : World :=
  { World.holding Tryz.prog os ⟨#[], #[], []⟩ with heap := (World.holding Tryz.prog os ⟨#[], #[], []⟩).heap.modify 3 fun
      | .cells _ t frozen => .cells mixA t frozen
      | o => o }
theorem laid_met (os : Go.Os) : laidMet Tryz.prog Rows.orderKnownRow.laid ((laidWorld os).forCall (fun _ _ => 0) ⟨#[], #[], []⟩).memory :=
  laidMet_of_run' 8 (by kernel_rfl) (by kernel_rfl)
theorem reads (os : Go.Os) {H : Type} (enc : TypeId × Value → H) : ∃ places, DataW.whole enc Tryz.prog ((laidWorld os).forCall (fun _ _ => 0) ⟨#[], #[], []⟩).memory Tryz.f3.params.toList Rows.orderKnownSpec.vars false (#[] : Array Value).toList 8 = some ([], [], places) :=
  ⟨[], by kernel_rfl⟩

set_option maxRecDepth 100000 in
theorem lifted (os : Go.Os) (started : os.Started) (H : Type) (enc : TypeId × Value → H) (F : Stop.Interp) :
    ReturnsInHanded {} Tryz.checked os 3 .any ((OpenSpec.ofChange Rows.orderKnownSpec).preRow enc Tryz.prog Tryz.f3 Rows.orderKnownRow.domain false Rows.orderKnownRow.laid) (((OpenSpec.ofChange Rows.orderKnownSpec).at F).post enc Tryz.prog Tryz.f3 false true false false) := by
  obtain ⟨places, hx⟩ := reads os enc
  refine returnsInHanded_of_row (C := Tryz.checked) (s := OpenSpec.ofChange Rows.orderKnownSpec) own started (by kernel_rfl) Tryz.func3
    (witness_row_at (enc := enc) (C := Tryz.checked) false (laidWorld os) #[] rfl (by kernel_rfl) (by kernel_rfl) (by kernel_rfl)
      (OpenSpec.preRow_of_cond 8 hx (by kernel_rfl) (fun k hk => by cases hk) (by kernel_rfl) (laid_met os))) ?_
  intro W base args ds gs before hval hW _ _ _ hL _ _
  exact contract H enc W base args ds gs before hval hW hL

theorem said : Rows.OrderKnownSaid :=
  OpenClaim.holds_of_cond 3 Tryz.f3 rfl rfl rfl rfl rfl rfl rfl ⟨rfl, rfl, rfl, rfl, rfl⟩ rfl rfl rfl rfl rfl (by kernel_rfl) Tryz.func3 (by kernel_rfl)
    (of_decide_eq_true (by kernel_rfl)) (by unfold Func.isWrapper; first | (rw [if_pos (by decide +kernel)]; kernel_rfl) | (rw [if_neg (by decide +kernel)]; exact ⟨rfl, rfl⟩))
    (fun os started H enc _ F => by rw [OpenClaim.pre_eq_preRow]; exact lifted os started H enc F)

theorem plain (f : FuncId) (fn : Func) (hf : Tryz.pinned.checked.prog.funcNamed "publican/publicanlaw12.OrderKnown" = some f) (hfn : Tryz.pinned.checked.prog.funcs[f]? = some fn) :
    false = Tryz.pinned.checked.prog.looks [] ∧ ∀ (j : Nat) t, fn.params[j]? = some t → Tryz.pinned.checked.prog.wantsStandIn t = false := by
  obtain rfl : f = 3 := Option.some.inj ((show Tryz.prog.funcNamed "publican/publicanlaw12.OrderKnown" = some 3 by kernel_rfl).symm.trans hf) |>.symm
  obtain rfl : fn = Tryz.f3 := (Option.some.inj (Tryz.func3.symm.trans hfn)).symm
  refine ⟨by kernel_rfl, fun j t ht => ?_⟩
  rw [Tryz.params3] at ht
  simp at ht

theorem card : Rows.OrderKnownCardSaid :=
  Claim7.holds_tied_plain_at .later [] _ _ _ _ said (fun _ h => by cases h) (by kernel_rfl) (fun _ h => by cases h) orderKnown_row_tie rfl ⟨rfl, rfl⟩ (by kernel_rfl) rfl plain (by kernel_rfl)

end Go.Proofs.YteknljnjcoehoaaGreatDoor.orderKnown
namespace Go.Proofs.YteknljnjcoehoaaGreatDoor

theorem OrderKnown_holds : Rows.OrderKnownCardSaid := orderKnown.card

end Go.Proofs.YteknljnjcoehoaaGreatDoor
