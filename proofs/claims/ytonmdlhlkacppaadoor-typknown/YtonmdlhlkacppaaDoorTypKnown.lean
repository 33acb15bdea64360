/- Proved: the law TypKnown of package publicanlaw11 returns true (it takes no input), whatever memory it starts in, on every schedule; the table of what may be reckoned of package typ holds what the program's text lays (the card ties it to that text). -/
import Derived.Test.YtonmdlhlkacppaaDoorCards
import Derived.Test.YtonmdlhlkacppaaDoorTie
import Derived.Test.YtonmdlhlkacppaaDoorJR
namespace Go.Proofs.YtonmdlhlkacppaaDoor.typKnown
open Go.ChangeMaps (open_string shut_string)
open Go.ChangeShapes Go.WideShapes Go.ChangeAt Go.RowKit
set_option linter.unusedVariables false
set_option linter.unusedSimpArgs false

def tx3 : ByteArray := ⟨#[105, 110, 112, 117, 116, 32, 108, 32, 109, 111, 110, 101, 121, 115, 59, 32, 114, 117, 108, 101, 32, 97, 32, 109, 111, 110, 101, 121, 32, 61, 32, 115, 117, 109, 40, 120, 32, 105, 110, 32, 108, 58, 32, 120, 41, 59, 32, 114, 117, 108, 101, 32, 98, 32, 114, 97, 116, 101, 32, 61, 32, 36, 49, 32, 47, 32, 36, 50, 59]⟩
def nx : Tr := .nd ⟨#[110, 97, 109, 101]⟩ ⟨#[120]⟩ 0 0 0 []
theorem nx_op : nx.op = ⟨#[110, 97, 109, 101]⟩ := rfl
theorem nx_name : nx.name = ⟨#[120]⟩ := rfl
theorem nx_kind : nx.kind = 0 := rfl
theorem nx_n : nx.n = 0 := rfl
theorem nx_pl : nx.pl = 0 := rfl
theorem nx_c0 : ((0 : Nat) : Int) = 0 := rfl
theorem tx3_ok : okX tx3 = true ∧ ckF (trX tx3).kids = none ∧ (fldF ⟨#[114, 117, 108, 101]⟩ (trX tx3).kids).length = 2 ∧ (chk (trX tx3).kids [] [] nx).1 = 0 ∧ (chk (trX tx3).kids [(⟨#[120]⟩, 3)] [] nx).1 = 3 := by decide +kernel
set_option maxRecDepth 100000 in
set_option maxHeartbeats 4000000 in
theorem walk (w : World) (hT : TabM w) : Calls Tryd.prog 3 #[] w fun e w' => e = .returned (.bool true) ∧ Below w.heap.size w w' := by
  have KA := hid (awake_any w hT)
  have K2 := hid (fun W => read_any ⟨#[105, 110, 112, 117, 116, 32, 108, 32, 109, 111, 110, 101, 121, 115, 59, 32, 114, 117, 108, 101, 32, 97, 32, 109, 111, 110, 101, 121, 32, 61, 32, 115, 117, 109, 40, 120, 32, 105, 110, 32, 108, 58, 32, 120, 41, 59, 32, 114, 117, 108, 101, 32, 98, 32, 114, 97, 116, 101, 32, 61, 32, 36, 49, 32, 47, 32, 36, 50, 59]⟩ W (by decide))
  have G2 := hid (good_tr tx3_ok.1)
  have L2 := hid (len_tr (t := tx3) (by decide))
  have C2 := hid tx3_ok.2
  unfold RdX at K2
  rw [show (⟨#[105, 110, 112, 117, 116, 32, 108, 32, 109, 111, 110, 101, 121, 115, 59, 32, 114, 117, 108, 101, 32, 97, 32, 109, 111, 110, 101, 121, 32, 61, 32, 115, 117, 109, 40, 120, 32, 105, 110, 32, 108, 58, 32, 120, 41, 59, 32, 114, 117, 108, 101, 32, 98, 32, 114, 97, 116, 101, 32, 61, 32, 36, 49, 32, 47, 32, 36, 50, 59]⟩ : ByteArray) = tx3 from rfl] at K2
  simp only [tx3_ok.1] at K2
  generalize trX tx3 = t2 at *
  have KC2 := hid (fun W (b : Below w.heap.size w W) S v hd => Check_any t2 G2.out.1 S W v hd G2.out.2 L2.out (hT.next b))
  unfold CkP at KC2
  rw [C2.out.1] at KC2
  simp only [Option.getD_none, Option.isNone_none, if_true] at KC2
  have KR := hid (fun W S v hd => Rules_any t2 S W v hd L2.out)
  unfold FsP at KR
  rw [C2.out.2.1] at KR
  have KO1 := hid (fun W (b : Below w.heap.size w W) S v (hd : Nd W S v t2.kids) => Of_any t2 nx S (fun _ => True) W v (.slice none 0 0) hd G2.out.2 L2.out [] none 0 (fun i x hx => by simp at hx) (by simp) 0 (.name _ _ _) (by decide) .nil (hT.next b))
  rw [C2.out.2.2.1] at KO1
  have KO2 := hid (fun W (b : Below w.heap.size w W) S v (hd : Nd W S v t2.kids) g (c0 : W.cell? ⟨g, 0, none⟩ = some (.string ⟨#[120]⟩)) (c1 : W.cell? ⟨g, 1, none⟩ = some (.int .i64 3)) => Of_any t2 nx S (fun _ => True) W v (.slice none 0 0) hd G2.out.2 L2.out [(⟨#[120]⟩, 3)] (some ⟨g, 0, none⟩) 1 (fun i x hx => by
    match i, hx with
    | 0, hx => simp at hx; subst hx; exact ⟨g, rfl, c0, c1⟩
    | i + 1, hx => simp at hx) (by simp) 0 (.name _ _ _) (by decide) .nil (hT.next b))
  rw [C2.out.2.2.2] at KO2
  unfold tx3 at K2
  clear hT C2 G2 L2
  simp only [nx_op, nx_name, nx_kind, nx_n, nx_pl, nx_c0, List.length_cons, List.length_nil, Nat.zero_add] at KO1 KO2
  go_enter Tryd.func3, Tryd.ntmps3
  go_upto_region 3 with (go_at_call 8; with_reducible refine Calls.mono KA.out ?_; rintro e w4 ⟨rfl, b4⟩; have B4 := hid b4; clear b4)
  have k2 := hid (K2.out w4)
  go_upto_region 4 with (go_at_call 9; with_reducible refine Calls.mono k2.out ?_; rintro e w5 ⟨b5, sa5, sb5, sm5, sc5, sn5, sd5, rfl, n5, m5⟩; have B5 := hid b5; have N5 := hid n5; clear b5 n5 m5)
  have P6 := hid (nextB (nextB B4.out B5.out) (show Below w5.heap.size w5 ((w5.alloc (.cells #[.string t2.op, .string t2.name, .int .i64 (t2.kind : Nat), .int .i64 t2.n, .int .i64 (t2.pl : Nat), .slice sa5 sm5 sc5] 26)).alloc (.cells #[.string t2.op, .string t2.name, .int .i64 (t2.kind : Nat), .int .i64 t2.n, .int .i64 (t2.pl : Nat), .slice sb5 sn5 sd5] 29)) from ((Below.refl _ _).alloc (Nat.le_refl _) _).alloc (by simp) _))
  have X6 := hid (show B6 ((w5.alloc (.cells #[.string t2.op, .string t2.name, .int .i64 (t2.kind : Nat), .int .i64 t2.n, .int .i64 (t2.pl : Nat), .slice sa5 sm5 sc5] 26)).alloc (.cells #[.string t2.op, .string t2.name, .int .i64 (t2.kind : Nat), .int .i64 t2.n, .int .i64 (t2.pl : Nat), .slice sb5 sn5 sd5] 29)) w5.heap.size (.string t2.op) (.string t2.name) (.int .i64 (t2.kind : Nat)) (.int .i64 t2.n) (.int .i64 (t2.pl : Nat)) (.slice sa5 sm5 sc5) from (B6.new w5 26 _ _ _ _ _ _).next ((Below.refl _ _).alloc (Nat.le_refl _) _))
  have N6 := hid (N5.out.gwY (show Below w5.heap.size w5 ((w5.alloc (.cells #[.string t2.op, .string t2.name, .int .i64 (t2.kind : Nat), .int .i64 t2.n, .int .i64 (t2.pl : Nat), .slice sa5 sm5 sc5] 26)).alloc (.cells #[.string t2.op, .string t2.name, .int .i64 (t2.kind : Nat), .int .i64 t2.n, .int .i64 (t2.pl : Nat), .slice sb5 sn5 sd5] 29)) from ((Below.refl _ _).alloc (Nat.le_refl _) _).alloc (by simp) _))
  generalize World.alloc (World.alloc w5 _) _ = w6 at *
  generalize w5.heap.size = q6 at *
  clear N5 k2 B5 B4
  have kc := hid (KC2.out w6 P6.out _ _ N6.out)
  obtain ⟨x0, x1, x2, x3, x4, x5, xz⟩ := X6.out
  go_upto_region 5 with (go_at_call 10; with_reducible refine Calls.mono kc.out ?_; rintro e wa ⟨rfl, ba⟩; have BA := hid (nextB P6.out ba); have XA := hid (X6.out.next ba); have NA := hid (N6.out.gwY ba); clear ba)
  clear x0 x1 x2 x3 x4 x5 xz X6 N6 kc
  obtain ⟨x0, x1, x2, x3, x4, x5, xz⟩ := XA.out
  have k1 := hid (KO1.out wa BA.out _ _ NA.out)
  go_wp2_with (first | (go_at_call 11; with_reducible refine Calls.mono k1.out ?_; rintro e wb ⟨rfl, bb⟩; clear k1; have BB := hid (nextB BA.out bb); have NB := hid (NA.out.gwY bb); have XB := hid (XA.out.next bb); obtain ⟨x0, x1, x2, x3, x4, x5, xz⟩ := XA.out.next bb; have BC := hid (nextB BB.out (show Below wb.heap.size wb (wb.alloc (.cells #[.string ⟨#[120]⟩, .int .i64 3] 37)) from (Below.refl _ _).alloc (Nat.le_refl _) _)); have NC9 := hid (NB.out.gwY (show Below wb.heap.size wb (wb.alloc (.cells #[.string ⟨#[120]⟩, .int .i64 3] 37)) from (Below.refl _ _).alloc (Nat.le_refl _) _)); have XC := hid (XB.out.next (show Below wb.heap.size wb (wb.alloc (.cells #[.string ⟨#[120]⟩, .int .i64 3] 37)) from (Below.refl _ _).alloc (Nat.le_refl _) _)); have k3 := hid (KO2.out _ BC.out _ _ NC9.out wb.heap.size (by simp) (by simp)); clear bb) | (go_at_call 11; with_reducible refine Calls.mono k3.out ?_; rintro e wd ⟨rfl, bd⟩; clear k3; have BD := hid (nextB BC.out bd); have ND := hid (NC9.out.gwY bd); obtain ⟨x0, x1, x2, x3, x4, x5, xz⟩ := XC.out.next bd; have kr := hid (KR.out wd _ _ ND.out); clear bd) | (go_at_call 12; with_reducible refine Calls.mono kr.out ?_; rintro e we ⟨vr, rfl, or1, be⟩; have BE := hid (nextB BD.out be); obtain ⟨ra, rc, rfl⟩ := own_slice or1; clear or1 be))
  go_returns
  exact ⟨rfl, BE.out⟩


theorem contract (H : Type) (enc : TypeId × Value → H) (W : World) (base : Nat) (args : Array Value) (ds gs : List (DataW H)) (before : List MemPlace)
    (hval : ∀ (j : Nat) t v, Tryd.f3.params[j]? = some t → args[j]? = some v → Value.okWide Tryd.prog W .any base t v)
    (hW : DataW.Whole enc Tryd.prog Tryd.f3.params.toList Rows.typKnownSpec.vars false W args.toList ds gs before) (hL : laidMetH Tryd.prog Rows.typKnownRow.laid W) :
    Calls Tryd.prog 3 args W fun e W' => ∃ v, e = .returned v ∧ Rows.typKnownSpec.post enc Tryd.prog Tryd.f3 false true false false W args v W' := by
  have hW' := hW
  obtain ⟨p, q, hA0, hV, rfl, hfz, hnd⟩ := hW
  have hA : DataW.TrodAll enc Tryd.prog W 0 (fun _ => true) true Tryd.f3.params.toList args.toList ds p := hA0
  have hT : TabM W := tabM_of hL
  rw [Tryd.params3] at hA
  obtain ⟨rfl, rfl, rfl⟩ := trodAll_none hA
  obtain ⟨rfl, rfl⟩ := trodVars_none hV
  refine (walk W hT).mono fun e W' ⟨he, bel⟩ => ?_
  subst he
  exact ⟨_, rfl, _, _, _, [], _, [], hW', trodAll_mk1 (shut_bool Tryd.underlying4 _), trodAll_mk0, rfl, bel.frame _, fun h => by cases h⟩

/-- A world for the witness: the table laid. -/
noncomputable def laidWorld (os : Go.Os) : World :=
  { World.holding Tryd.prog os ⟨#[], #[], []⟩ with heap := (World.holding Tryd.prog os ⟨#[], #[], []⟩).heap.modify 0 fun
      | .cells _ t frozen => .cells mixA t frozen
      | o => o }
theorem laid_met (os : Go.Os) : laidMet Tryd.prog Rows.typKnownRow.laid ((laidWorld os).forCall (fun _ _ => 0) ⟨#[], #[], []⟩).memory :=
  laidMet_of_run' 8 (by kernel_rfl) (by kernel_rfl)
theorem reads (os : Go.Os) {H : Type} (enc : TypeId × Value → H) : ∃ places, DataW.whole enc Tryd.prog ((laidWorld os).forCall (fun _ _ => 0) ⟨#[], #[], []⟩).memory Tryd.f3.params.toList Rows.typKnownSpec.vars false (#[] : Array Value).toList 8 = some ([], [], places) :=
  ⟨[], by kernel_rfl⟩

set_option maxRecDepth 100000 in
theorem lifted (os : Go.Os) (started : os.Started) (H : Type) (enc : TypeId × Value → H) (F : Stop.Interp) :
    ReturnsInHanded {} Tryd.checked os 3 .any ((OpenSpec.ofChange Rows.typKnownSpec).preRow enc Tryd.prog Tryd.f3 Rows.typKnownRow.domain false Rows.typKnownRow.laid) (((OpenSpec.ofChange Rows.typKnownSpec).at F).post enc Tryd.prog Tryd.f3 false true false false) := by
  obtain ⟨places, hx⟩ := reads os enc
  refine returnsInHanded_of_row (C := Tryd.checked) (s := OpenSpec.ofChange Rows.typKnownSpec) own started (by kernel_rfl) Tryd.func3
    (witness_row_at (enc := enc) (C := Tryd.checked) false (laidWorld os) #[] rfl (by kernel_rfl) (by kernel_rfl) (by kernel_rfl)
      (OpenSpec.preRow_of_cond 8 hx (by kernel_rfl) (fun k hk => by cases hk) (by kernel_rfl) (laid_met os))) ?_
  intro W base args ds gs before hval hW _ _ _ hL _ _
  exact contract H enc W base args ds gs before hval hW hL

theorem said : Rows.TypKnownSaid :=
  OpenClaim.holds_of_cond 3 Tryd.f3 rfl rfl rfl rfl rfl rfl rfl ⟨rfl, rfl, rfl, rfl, rfl⟩ rfl rfl rfl rfl rfl (by kernel_rfl) Tryd.func3 (by kernel_rfl)
    (of_decide_eq_true (by kernel_rfl)) (by unfold Func.isWrapper; first | (rw [if_pos (by decide +kernel)]; kernel_rfl) | (rw [if_neg (by decide +kernel)]; exact ⟨rfl, rfl⟩))
    (fun os started H enc _ F => by rw [OpenClaim.pre_eq_preRow]; exact lifted os started H enc F)

theorem plain (f : FuncId) (fn : Func) (hf : Tryd.pinned.checked.prog.funcNamed "publican/publicanlaw11.TypKnown" = some f) (hfn : Tryd.pinned.checked.prog.funcs[f]? = some fn) :
    false = Tryd.pinned.checked.prog.looks [] ∧ ∀ (j : Nat) t, fn.params[j]? = some t → Tryd.pinned.checked.prog.wantsStandIn t = false := by
  obtain rfl : f = 3 := Option.some.inj ((show Tryd.prog.funcNamed "publican/publicanlaw11.TypKnown" = some 3 by kernel_rfl).symm.trans hf) |>.symm
  obtain rfl : fn = Tryd.f3 := (Option.some.inj (Tryd.func3.symm.trans hfn)).symm
  refine ⟨by kernel_rfl, fun j t ht => ?_⟩
  rw [Tryd.params3] at ht
  simp at ht

theorem card : Rows.TypKnownCardSaid :=
  Claim7.holds_tied_plain_at .later [] _ _ _ _ said (fun _ h => by cases h) (by kernel_rfl) (fun _ h => by cases h) typKnown_row_tie rfl ⟨rfl, rfl⟩ (by kernel_rfl) rfl plain (by kernel_rfl)

end Go.Proofs.YtonmdlhlkacppaaDoor.typKnown
namespace Go.Proofs.YtonmdlhlkacppaaDoor

theorem TypKnown_holds : Rows.TypKnownCardSaid := typKnown.card

end Go.Proofs.YtonmdlhlkacppaaDoor
