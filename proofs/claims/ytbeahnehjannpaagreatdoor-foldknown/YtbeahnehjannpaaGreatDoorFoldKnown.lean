/- Proved: the law FoldKnown of package publicanlaw15 returns true (it takes no input), whatever memory it starts in, on every schedule; the five tables that it reads (math/bits' two, strconv's uint64pow10, syn's kindNames, mean's units) hold what the program's text lays (the card ties them to that text). -/
import Derived.Test.YtbeahnehjannpaaGreatDoorCards
import Derived.Test.YtbeahnehjannpaaGreatDoorTie
import Derived.Test.YtbeahnehjannpaaGreatDoorJp
namespace Go.Proofs.YtbeahnehjannpaaGreatDoor.foldKnown
open Go.ChangeMaps (open_string shut_string)
open Go.ChangeShapes Go.WideShapes Go.ChangeAt Go.RowKit
set_option linter.unusedVariables false
set_option linter.unusedSimpArgs false

set_option maxRecDepth 100000 in
set_option maxHeartbeats 8000000 in
theorem walk (w : World) (hT : TbF w) : Calls Tryz.prog 3 #[] w fun e w' => e = .returned (.bool true) ∧ Below w.heap.size w w' := by
  have KA := hid (awakeF w hT.un)
  have HT := hid hT
  have SZ := hid (sz_tr (t := txk) txk_ok.2.2.2.2)
  have GD := hid txk_ok.2.1
  have SG := hid txk_ok.2.2.1
  have SH := hid txk_ok.2.2.2.1
  have K1 := hid (fun W => read_any txk W txk_ok.2.2.2.2)
  unfold RdX at K1
  simp only [txk_ok.1] at K1
  generalize trX txk = t at *
  obtain ⟨m, hm⟩ : ∃ m, fdS t = m := ⟨_, rfl⟩
  have KF := hid (show ∀ W, Below w.heap.size w W → ∀ v, Nv W (fun _ => True) v t → Calls Tryz.prog 8 #[v] W fun e w' => ∃ (ta : Option Addr) (tm tc : Nat), e = .returned (.agg #[.string m.op, .string m.name, .int .i64 (m.kind : Nat), .int .i64 m.n, .int .i64 (m.pl : Nat), .slice ta tm tc]) ∧ Nd w' (fun _ => True) (.slice ta tm tc) m.kids ∧ Below W.heap.size W w' from fun W b v hv => by
    refine (fold_tr SZ.out GD.out (fun _ => True) W v (HT.out.un.next b) hv).mono ?_
    rintro e9 w9 ⟨v9, rfl, n9, b9⟩
    rw [hm] at n9
    obtain ⟨sl, rfl, nd⟩ := n9
    obtain ⟨ta, tm, tc, rfl⟩ := nd.slice
    exact ⟨ta, tm, tc, rfl, nd.keep fun g s l => ⟨trivial, rfl⟩, b9⟩)
  have KS := hid (fun W (b : Below w.heap.size w W) sa sm sc (hN : Nd W (fun _ => True) (.slice sa sm sc) m.kids) => Show_any m W sa sm sc _ hN (fun B h => sgF_of m (by rw [← hm]; exact SG.out) B (Nat.lt_of_lt_of_le (HT.out.next b).kt.1 h)) (HT.out.next b).pw (HT.out.next b).kt (by rw [← hm, SH.out]; decide) (by rw [← hm, SH.out]; decide))
  have OUT : (⟨(shw m).toArray⟩ : ByteArray) = txs := by rw [← hm, SH.out]
  simp only [OUT] at KS
  unfold txs at KS
  clear OUT hm hT SZ GD SG SH
  unfold txk at K1
  go_enter Tryz.func3, Tryz.ntmps3
  go_upto_region 3 with (go_at_call 6; (with_reducible refine Calls.mono KA.out ?_); rintro e w3 ⟨rfl, b3⟩; have B3 := hid b3; clear b3)
  have k1 := hid (K1.out w3)
  go_upto_region 4 with (go_at_call 7; (with_reducible refine Calls.mono k1.out ?_); rintro e w4 ⟨b4, sa, sb, sm, sc, sn, sd, rfl, n4, m4⟩; have B4 := hid (nextB B3.out b4); have N4 := hid n4; clear b4 n4 m4)
  have bX := (show Below w4.heap.size w4 ((w4.alloc (.cells #[.string t.op, .string t.name, .int .i64 (t.kind : Nat), .int .i64 t.n, .int .i64 (t.pl : Nat), .slice sa sm sc] 26)).alloc (.cells #[.string t.op, .string t.name, .int .i64 (t.kind : Nat), .int .i64 t.n, .int .i64 (t.pl : Nat), .slice sb sn sd] 29)) from ((Below.refl _ _).alloc (Nat.le_refl _) _).alloc (by simp) _)
  have B5 := hid (nextB B4.out bX)
  have X5 := hid (show B6 ((w4.alloc (.cells #[.string t.op, .string t.name, .int .i64 (t.kind : Nat), .int .i64 t.n, .int .i64 (t.pl : Nat), .slice sa sm sc] 26)).alloc (.cells #[.string t.op, .string t.name, .int .i64 (t.kind : Nat), .int .i64 t.n, .int .i64 (t.pl : Nat), .slice sb sn sd] 29)) w4.heap.size (.string t.op) (.string t.name) (.int .i64 (t.kind : Nat)) (.int .i64 t.n) (.int .i64 (t.pl : Nat)) (.slice sa sm sc) from (B6.new w4 26 (.string t.op) (.string t.name) (.int .i64 (t.kind : Nat)) (.int .i64 t.n) (.int .i64 (t.pl : Nat)) (.slice sa sm sc)).next ((Below.refl _ _).alloc (Nat.le_refl _) _))
  have N5 := hid ((N4.out.any bX).keep (S' := fun _ => True) fun g s l => ⟨trivial, rfl⟩)
  clear bX N4 B4 k1 K1 KA B3
  generalize World.alloc (World.alloc w4 _) _ = w5 at *
  generalize w4.heap.size = q5 at *
  have k2 := hid (KF.out w5 B5.out (.agg #[.string t.op, .string t.name, .int .i64 (t.kind : Nat), .int .i64 t.n, .int .i64 (t.pl : Nat), .slice sa sm sc]) ⟨_, rfl, N5.out⟩)
  obtain ⟨x0, x1, x2, x3, x4, x5, xz⟩ := X5.out
  go_upto_region 5 with (go_at_call 8; (with_reducible refine Calls.mono k2.out ?_); rintro e w6 ⟨ta, tm, tc, rfl, n6, b6⟩; have B6' := hid (nextB B5.out b6); have N6 := hid n6; clear n6 b6)
  have bX := (show Below w6.heap.size w6 (w6.alloc (.cells #[.string m.op, .string m.name, .int .i64 (m.kind : Nat), .int .i64 m.n, .int .i64 (m.pl : Nat), .slice ta tm tc] 26)) from (Below.refl _ _).alloc (Nat.le_refl _) _)
  have B7 := hid (nextB B6'.out bX)
  have N7 := hid (N6.out.any bX)
  have X7 := hid (B6.new w6 26 (.string m.op) (.string m.name) (.int .i64 (m.kind : Nat)) (.int .i64 m.n) (.int .i64 (m.pl : Nat)) (.slice ta tm tc))
  clear bX x0 x1 x2 x3 x4 x5 xz X5 N5 N6 B5 k2 KF
  generalize World.alloc w6 _ = w7 at *
  generalize w6.heap.size = q7 at *
  have k3 := hid (KS.out w7 B7.out ta tm tc N7.out)
  obtain ⟨x0, x1, x2, x3, x4, x5, xz⟩ := X7.out
  go_wp2_with (go_at_call 9; (with_reducible refine Calls.mono k3.out ?_); rintro e w8 ⟨rfl, b8⟩; have B8 := hid (nextB B7.out b8); clear b8)
  go_returns
  exact ⟨rfl, B8.out⟩


set_option maxRecDepth 100000 in
theorem contract (H : Type) (enc : TypeId × Value → H) (W : World) (base : Nat) (args : Array Value) (ds gs : List (DataW H)) (before : List MemPlace)
    (hval : ∀ (j : Nat) t v, Tryz.f3.params[j]? = some t → args[j]? = some v → Value.okWide Tryz.prog W .any base t v)
    (hW : DataW.Whole enc Tryz.prog Tryz.f3.params.toList Rows.foldKnownSpec.vars false W args.toList ds gs before) (hL : laidMetH Tryz.prog Rows.foldKnownRow.laid W) :
    Calls Tryz.prog 3 args W fun e W' => ∃ v, e = .returned v ∧ Rows.foldKnownSpec.post enc Tryz.prog Tryz.f3 false true false false W args v W' := by
  have hW' := hW
  obtain ⟨p, q, hA0, hV, rfl, hfz, hnd⟩ := hW
  have hA : DataW.TrodAll enc Tryz.prog W 0 (fun _ => true) true Tryz.f3.params.toList args.toList ds p := hA0
  have hT : TbF W := tbf_of hL
  rw [Tryz.params3] at hA
  obtain ⟨rfl, rfl, rfl⟩ := trodAll_none hA
  obtain ⟨rfl, rfl⟩ := trodVars_none hV
  refine (walk W hT).mono fun e W' ⟨he, bel⟩ => ?_
  subst he
  exact ⟨_, rfl, _, _, _, [], _, [], hW', trodAll_mk1 (shut_bool Tryz.underlying4 _), trodAll_mk0, rfl, bel.frame _, fun h => by cases h⟩

theorem laid_met (os : Go.Os) : laidMet Tryz.prog Rows.foldKnownRow.laid ((laidWorld os).forCall (fun _ _ => 0) ⟨#[], #[], []⟩).memory :=
  laidMet_of_run' 8 (by kernel_rfl) (by kernel_rfl)
theorem reads (os : Go.Os) {H : Type} (enc : TypeId × Value → H) : ∃ places, DataW.whole enc Tryz.prog ((laidWorld os).forCall (fun _ _ => 0) ⟨#[], #[], []⟩).memory Tryz.f3.params.toList Rows.foldKnownSpec.vars false (#[] : Array Value).toList 8 = some ([], [], places) :=
  ⟨[], by kernel_rfl⟩

set_option maxRecDepth 100000 in
theorem lifted (os : Go.Os) (started : os.Started) (H : Type) (enc : TypeId × Value → H) (F : Stop.Interp) :
    ReturnsInHanded {} Tryz.checked os 3 .any ((OpenSpec.ofChange Rows.foldKnownSpec).preRow enc Tryz.prog Tryz.f3 Rows.foldKnownRow.domain false Rows.foldKnownRow.laid) (((OpenSpec.ofChange Rows.foldKnownSpec).at F).post enc Tryz.prog Tryz.f3 false true false false) := by
  obtain ⟨places, hx⟩ := reads os enc
  refine returnsInHanded_of_row (C := Tryz.checked) (s := OpenSpec.ofChange Rows.foldKnownSpec) own started (by kernel_rfl) Tryz.func3
    (witness_row_at (enc := enc) (C := Tryz.checked) false (laidWorld os) #[] rfl (by kernel_rfl) (by kernel_rfl) (by kernel_rfl)
      (OpenSpec.preRow_of_cond 8 hx (by kernel_rfl) (fun k hk => by cases hk) (by kernel_rfl) (laid_met os))) ?_
  intro W base args ds gs before hval hW _ _ _ hL _ _
  exact contract H enc W base args ds gs before hval hW hL

theorem said : Rows.FoldKnownSaid :=
  OpenClaim.holds_of_cond 3 Tryz.f3 rfl rfl rfl rfl rfl rfl rfl ⟨rfl, rfl, rfl, rfl, rfl⟩ rfl rfl rfl rfl rfl (by kernel_rfl) Tryz.func3 (by kernel_rfl)
    (of_decide_eq_true (by kernel_rfl)) (by unfold Func.isWrapper; first | (rw [if_pos (by decide +kernel)]; kernel_rfl) | (rw [if_neg (by decide +kernel)]; exact ⟨rfl, rfl⟩))
    (fun os started H enc _ F => by rw [OpenClaim.pre_eq_preRow]; exact lifted os started H enc F)

theorem plain (f : FuncId) (fn : Func) (hf : Tryz.pinned.checked.prog.funcNamed "publican/publicanlaw15.FoldKnown" = some f) (hfn : Tryz.pinned.checked.prog.funcs[f]? = some fn) :
    false = Tryz.pinned.checked.prog.looks [] ∧ ∀ (j : Nat) t, fn.params[j]? = some t → Tryz.pinned.checked.prog.wantsStandIn t = false := by
  obtain rfl : f = 3 := Option.some.inj ((show Tryz.prog.funcNamed "publican/publicanlaw15.FoldKnown" = some 3 by kernel_rfl).symm.trans hf) |>.symm
  obtain rfl : fn = Tryz.f3 := (Option.some.inj (Tryz.func3.symm.trans hfn)).symm
  refine ⟨by kernel_rfl, fun j t ht => ?_⟩
  rw [Tryz.params3] at ht
  simp at ht

theorem card : Rows.FoldKnownCardSaid :=
  Claim7.holds_tied_plain_at .later [] _ _ _ _ said (fun _ h => by cases h) (by kernel_rfl) (fun _ h => by cases h) foldKnown_row_tie rfl ⟨rfl, rfl⟩ (by kernel_rfl) rfl plain (by kernel_rfl)

end Go.Proofs.YtbeahnehjannpaaGreatDoor.foldKnown
namespace Go.Proofs.YtbeahnehjannpaaGreatDoor

theorem FoldKnown_holds : Rows.FoldKnownCardSaid := foldKnown.card

end Go.Proofs.YtbeahnehjannpaaGreatDoor
