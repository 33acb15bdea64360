/- Proved: the law PackSums of package publicanlaw3 returns true for every row of bytes, every number of 64 bits and every byte, whatever memory it starts in, on every schedule; the table of package pack holds what the program's text lays (the card ties it to that text). -/
import Derived.Test.YtgjimoihbbogdaaDoorCards
import Derived.Test.YtgjimoihbbogdaaDoorTie
import Derived.Test.YtgjimoihbbogdaaDoorW9
import Derived.Deep.DeepCutAuto
namespace Go.Proofs.YtgjimoihbbogdaaDoor.packSums
open Go.ChangeMaps (open_string shut_string)
open Go.ChangeShapes Go.WideShapes Go.ChangeAt Go.RowKit
set_option linter.unusedVariables false

set_option maxHeartbeats 4000000 in
theorem walk_long (w : World) (ht : Tab w) (a : Option Addr) (n cap : Nat) (i y : Int) (h : 400 < n) :
    Calls Tryd.prog 7 #[.slice a n cap, .int .i64 i, .int .u8 y] w fun e w' => e = .returned (.bool true) ∧ Below w.heap.size w w' := by
  have T : Hid (Tab w) := ht
  clear ht
  have h' : (400 : Int) < (n : Int) := by omega
  go_enter Tryd.func7, Tryd.ntmps7
  go_wp2_with (go_at_call 9; refine (awake_any w T.out).mono ?_; rintro e w1 ⟨rfl, b1⟩)
  go_ret
  exact ⟨rfl, b1⟩

set_option maxHeartbeats 4000000 in
theorem walk_low (w : World) (ht : Tab w) (a : Option Addr) (n cap : Nat) (i y : Int) (h : n ≤ 400) (h1 : i < 0) :
    Calls Tryd.prog 7 #[.slice a n cap, .int .i64 i, .int .u8 y] w fun e w' => e = .returned (.bool true) ∧ Below w.heap.size w w' := by
  have T : Hid (Tab w) := ht
  clear ht
  have h' : ¬ (400 : Int) < (n : Int) := by omega
  go_enter Tryd.func7, Tryd.ntmps7
  go_wp2_with (go_at_call 9; refine (awake_any w T.out).mono ?_; rintro e w1 ⟨rfl, b1⟩)
  go_ret
  exact ⟨rfl, b1⟩

set_option maxHeartbeats 4000000 in
theorem walk_high (w : World) (ht : Tab w) (a : Option Addr) (n cap : Nat) (i y : Int) (h : n ≤ 400) (h1 : 0 ≤ i) (h2 : (n : Int) ≤ i) :
    Calls Tryd.prog 7 #[.slice a n cap, .int .i64 i, .int .u8 y] w fun e w' => e = .returned (.bool true) ∧ Below w.heap.size w w' := by
  have T : Hid (Tab w) := ht
  clear ht
  have h' : ¬ (400 : Int) < (n : Int) := by omega
  have h1' : ¬ i < 0 := by omega
  go_enter Tryd.func7, Tryd.ntmps7
  go_wp2_with (go_at_call 9; refine (awake_any w T.out).mono ?_; rintro e w1 ⟨rfl, b1⟩)
  go_ret
  exact ⟨rfl, b1⟩

set_option maxHeartbeats 4000000 in
theorem walk_nought (w : World) (ht : Tab w) (a : Option Addr) (n cap : Nat) (i y : Int) (h : n ≤ 400) (h1 : 0 ≤ i) (h2 : i < (n : Int)) (h3 : y = 0) :
    Calls Tryd.prog 7 #[.slice a n cap, .int .i64 i, .int .u8 y] w fun e w' => e = .returned (.bool true) ∧ Below w.heap.size w w' := by
  have T : Hid (Tab w) := ht
  clear ht
  have h' : ¬ (400 : Int) < (n : Int) := by omega
  have h1' : ¬ i < 0 := by omega
  have h2' : ¬ (n : Int) ≤ i := by omega
  subst h3
  go_enter Tryd.func7, Tryd.ntmps7
  go_wp2_with (go_at_call 9; refine (awake_any w T.out).mono ?_; rintro e w1 ⟨rfl, b1⟩)
  go_ret
  exact ⟨rfl, b1⟩

theorem own_set {w : World} {base g n cap j : Nat} {bs : List Int} {y : Int} (h : Own w base (.slice (some ⟨g, 0, none⟩) n cap) bs) (hn : bs.length = n) (hj : j < n) (h0 : 0 ≤ y) (h1 : y < 256) :
    Own (w.setCell ⟨g, j, none⟩ (.int .u8 y)) base (.slice (some ⟨g, 0, none⟩) n cap) (bs.set j y) := by
  subst hn
  have := h.row.stored j (.int .u8 y)
  refine ⟨?_, fun x hx => ?_⟩
  · rw [List.length_set, List.map_set]
    exact this.1
  · rcases List.mem_or_eq_of_mem_set hx with q | q
    · exact h.ok x q
    · subst q; exact ⟨h0, h1⟩

set_option maxHeartbeats 4000000 in
theorem walk_main (w : World) (ht : Tab w) (a : Option Addr) (n cap : Nat) (zs : List Int) (hz : By w a n cap zs) (i y : Nat) (h : n ≤ 400) (h2 : i < n) (h3 : y < 256) (h4 : y ≠ 0) :
    Calls Tryd.prog 7 #[.slice a n cap, .int .i64 i, .int .u8 y] w fun e w' => e = .returned (.bool true) ∧ Below w.heap.size w w' := by
  have T : Hid (Tab w) := ht
  have Z : Hid _ := hz
  have e1 : ¬ (400 : Int) < (n : Int) := by omega
  have e2 : ¬ (i : Int) < 0 := by omega
  have e3 : ¬ (n : Int) ≤ (i : Int) := by omega
  have e4 : ((y : Int) == 0) = false := beq_eq_false_iff_ne.2 (by omega)
  have hzl := hz.len
  have hx := hz.ok.getD i
  obtain ⟨x, hx'⟩ : ∃ x : Nat, (x : Int) = zs.getD i 0 := ⟨(zs.getD i 0).toNat, by omega⟩
  rw [← hx'] at hx
  have r1 := u8_xor_nat x y (by omega) h3
  obtain ⟨r, hr⟩ : ∃ r : Nat, r = x ^^^ y := ⟨_, rfl⟩
  have r256 : r < 256 := by
    have := Nat.xor_lt_two_pow (n := 8) (x := x) (y := y) (by omega) h3
    rw [hr]; simpa using this
  have rne : (r : Int) ≠ zs.getD i 0 := by
    rw [← hx']
    intro e
    have e' : x ^^^ y = x := by omega
    have := xor_cancel_left (a := x) (b := y) (c := 0) (by rw [e', Nat.xor_zero])
    exact h4 this
  have sne := sum_set hz.ok (i := i) (by omega) (y := (r : Int)) (by omega) (by omega) rne
  rw [← hr] at r1
  have X : Hid _ := hx'
  have SNE : Hid _ := sne
  clear ht hz hx' hr rne sne h4
  go_enter Tryd.func7, Tryd.ntmps7
  go_wp2_with fail
  refine (awake_any w T.out).mono ?_
  rintro e w1 ⟨rfl, b1⟩
  have Z1 : Hid _ := Z.out.below b1
  have B1 : Hid _ := b1
  have T1 : Hid (Tab w1) := T.out.next b1
  clear b1
  go_upto_region 6 with (at_builtin; refine wpList_append_by rfl (.tmp 27) (.tmp 28) rfl w1.heap.size _ [] rfl (own_empty w1) a n cap zs rfl (Z1.out.below (allocB w1 _)) (by simp; omega) (by simp) ?_; intro v2 w2 o2 g2)
  rw [List.nil_append] at o2
  obtain ⟨a2, c2, rfl, y2, s2, hh2⟩ := o2.by
  obtain ⟨g, rfl⟩ : ∃ g, a2 = some ⟨g, 0, none⟩ := by
    rcases hh2 with rfl | hh
    · have := y2.none_nil; omega
    · exact hh
  have B2 := app0 g2
  have cl := o2.row.cellAt i (by omega)
  have fz := o2.row.frozenAt i
  have ex : (zs.map (Value.int .u8))[i]? = some (.int .u8 (x : Int)) := by
    have e : zs.getD i 0 = zs[i] := by simp [List.getD, show i < zs.length by omega]
    rw [X.out, e]
    simp [show i < zs.length by omega]
  rw [ex] at cl
  have gl := (s2 _ rfl).1
  have O3 := own_set o2 rfl (j := i) (y := (r : Int)) (by omega) (by omega) (by omega)
  obtain ⟨a3, c3, q3, y3, -, -⟩ := O3.by
  simp only [List.length_set] at q3
  injection q3 with q3a q3b q3c
  subst q3a
  subst q3c
  have G3 := grownBy_setCell w2 g i (.int .u8 (r : Int))
  have Y3 : Hid (By (w2.setCell ⟨g, i, none⟩ (.int .u8 (r : Int))) (some ⟨g, 0, none⟩) n c2 (zs.set i r)) := by
    have := y3
    simp only [List.length_set] at this
    rw [hzl] at this
    exact this
  have V3 : Hid (By (w2.setCell ⟨g, i, none⟩ (.int .u8 (r : Int))) a n cap zs) := (Z1.out.below B2).grown G3 (fun p x hx e => by
    have := Z1.out.old p x hx
    simp at e gl
    omega)
  have T3 : Hid (Tab (w2.setCell ⟨g, i, none⟩ (.int .u8 (r : Int)))) := (T1.out.next B2).below ((Below.refl w1.heap.size w2).grown G3 B2.size (fun k hk => by simp at hk gl; omega)) T1.out.1
  have B3 : Hid (Below w.heap.size w (w2.setCell ⟨g, i, none⟩ (.int .u8 (r : Int)))) := nextB B1.out (B2.grown G3 B2.size (fun k hk => by simp at hk gl; omega))
  rw [hzl]
  clear o2 y2 s2 hh2 B2 g2 O3 y3 G3 ex gl Z1 T1
  go_wp2_with fail
  refine (pSum_any a n cap zs _ V3.out (by omega) T3.out).mono ?_
  rintro e w4 ⟨rfl, rfl⟩
  go_wp2_with fail
  refine (pSum_any (some ⟨g, 0, none⟩) n c2 (zs.set i r) _ Y3.out (by omega) T3.out).mono ?_
  rintro e w4 ⟨rfl, rfl⟩
  have tn : (((sum zs : Nat) : Int) != ((sum (zs.set i (r : Int)) : Nat) : Int)) = true := by
    rw [bne_iff_ne]
    exact fun e => SNE.out (Int.ofNat.inj e).symm
  go_wp2
  go_ret
  exact ⟨rfl, B3.out⟩

theorem walk (w : World) (ht : Tab w) (a : Option Addr) (n cap : Nat) (zs : List Int) (hz : Nm .u8 w a n cap zs) (i : Int) (wi : (Lit.int .i64 i).wf = true) (y : Int) (wy : (Lit.int .u8 y).wf = true) :
    Calls Tryd.prog 7 #[.slice a n cap, .int .i64 i, .int .u8 y] w fun e w' => e = .returned (.bool true) ∧ Below w.heap.size w w' := by
  have by0 := bounds_u8 wy
  by_cases h : 400 < n
  · exact walk_long w ht a n cap i y h
  · by_cases h1 : i < 0
    · exact walk_low w ht a n cap i y (by omega) h1
    · by_cases h2 : (n : Int) ≤ i
      · exact walk_high w ht a n cap i y (by omega) (by omega) h2
      · by_cases h3 : y = 0
        · exact walk_nought w ht a n cap i y (by omega) (by omega) (by omega) h3
        · obtain ⟨i, rfl⟩ := Int.eq_ofNat_of_zero_le (show 0 ≤ i by omega)
          obtain ⟨y, rfl⟩ := Int.eq_ofNat_of_zero_le by0.1
          exact walk_main w ht a n cap zs hz.by i y (by omega) (by omega) (by omega) (by omega)


theorem contract (H : Type) (enc : TypeId × Value → H) (W : World) (base : Nat) (args : Array Value) (ds gs : List (DataW H)) (before : List MemPlace)
    (hval : ∀ (j : Nat) t v, Tryd.f7.params[j]? = some t → args[j]? = some v → Value.okWide Tryd.prog W .any base t v)
    (hW : DataW.Whole enc Tryd.prog Tryd.f7.params.toList Rows.packSumsSpec.vars false W args.toList ds gs before) (hL : laidMetH Tryd.prog Rows.packSumsRow.laid W) :
    Calls Tryd.prog 7 args W fun e W' => ∃ v, e = .returned v ∧ Rows.packSumsSpec.post enc Tryd.prog Tryd.f7 false true false false W args v W' := by
  have hW' := hW
  obtain ⟨p, q, hA0, hV, rfl, hfz, hnd⟩ := hW
  have hA : DataW.TrodAll enc Tryd.prog W 0 (fun _ => true) true Tryd.f7.params.toList args.toList ds p := hA0
  have hT : Tab W := tab_of hL
  rw [Tryd.params7] at hA hval
  obtain ⟨v0, vs0, d0, ds0, p0, q0, hargs, rfl, rfl, h0, r0⟩ := trodAll_cons hA
  obtain ⟨v1, vs1, d1, ds1, p1, q1, rfl, rfl, rfl, h1, r1⟩ := trodAll_cons r0
  obtain ⟨v2, vs2, d2, ds2, p2, q2, rfl, rfl, rfl, h2, r2⟩ := trodAll_cons r1
  obtain ⟨rfl, rfl, rfl⟩ := trodAll_nil r2
  obtain rfl : args = #[v0, v1, v2] := by cases args; simp_all
  obtain ⟨rfl, rfl⟩ := trodVars_none hV
  obtain ⟨a0, len0, cap0, rfl⟩ := okWide_slice Tryd.underlying25 (hval 0 25 v0 rfl rfl)
  have k0 := h0
  have lt0 : ∀ x ∈ p0, x.block < W.heap.size := by obtain ⟨m, hm⟩ := k0; exact DataW.trod_lt m _ _ _ hm
  obtain ⟨z0, w0⟩ : ∃ zs, Nm .u8 W a0 len0 cap0 zs := by
    obtain ⟨fuel, hf⟩ := h0
    exact nm_of Tryd.underlying25 Tryd.underlying5 (by kernel_rfl) hf
  obtain ⟨a1, rfl, rfl, rfl, w1⟩ := open_int Tryd.underlying3 (hval 1 3 v1 rfl rfl) h1
  obtain ⟨a2, rfl, rfl, rfl, w2⟩ := open_int Tryd.underlying5 (hval 2 5 v2 rfl rfl) h2
  clear hA0
  refine (walk W hT a0 len0 cap0 z0 w0 a1 w1 a2 w2).mono fun e W' ⟨he, bel⟩ => ?_
  subst he
  exact ⟨_, rfl, _, _, _, [], _, [], hW', trodAll_mk1 (shut_bool Tryd.underlying4 _), (trodAll_cons_mk (Below.trod laidOut (by kernel_rfl) (of_decide_eq_true (by kernel_rfl)) k0 bel lt0) (trodAll_cons_mk (shut_int Tryd.underlying3 w1) (trodAll_cons_mk (shut_int Tryd.underlying5 w2) trodAll_mk0))), rfl, bel.frame _, fun h => by cases h⟩

/-- A world for the witness: the table laid. -/
noncomputable def laidWorld (os : Os) : World :=
  { World.holding Tryd.prog os ⟨#[], #[], []⟩ with heap := (World.holding Tryd.prog os ⟨#[], #[], []⟩).heap.modify 0 fun
      | .cells _ t frozen => .cells (tabL.map (Value.int .u32)).toArray t frozen
      | o => o }
theorem laid_met (os : Os) : laidMet Tryd.prog Rows.packSumsRow.laid ((laidWorld os).forCall (fun _ _ => 0) ⟨#[], #[.slice none 0 0, .int .i64 0, .int .u8 0], []⟩).memory :=
  laidMet_of_run' 8 (by kernel_rfl) (by kernel_rfl)
theorem reads (os : Os) {H : Type} (enc : TypeId × Value → H) : ∃ places, DataW.whole enc Tryd.prog ((laidWorld os).forCall (fun _ _ => 0) ⟨#[], #[.slice none 0 0, .int .i64 0, .int .u8 0], []⟩).memory Tryd.f7.params.toList Rows.packSumsSpec.vars false (#[.slice none 0 0, .int .i64 0, .int .u8 0] : Array Value).toList 8 = some ([.nil, .lit (.int .i64 0), .lit (.int .u8 0)], [], places) :=
  ⟨[], by kernel_rfl⟩

set_option maxRecDepth 100000 in
theorem lifted (os : Os) (started : os.Started) (H : Type) (enc : TypeId × Value → H) (F : Stop.Interp) :
    ReturnsInHanded {} Tryd.checked os 7 .any ((OpenSpec.ofChange Rows.packSumsSpec).preRow enc Tryd.prog Tryd.f7 Rows.packSumsRow.domain false Rows.packSumsRow.laid) (((OpenSpec.ofChange Rows.packSumsSpec).at F).post enc Tryd.prog Tryd.f7 false true false false) := by
  obtain ⟨places, hx⟩ := reads os enc
  refine returnsInHanded_of_row (C := Tryd.checked) (s := OpenSpec.ofChange Rows.packSumsSpec) own started (by kernel_rfl) Tryd.func7
    (witness_row_at (enc := enc) (C := Tryd.checked) false (laidWorld os) #[.slice none 0 0, .int .i64 0, .int .u8 0] rfl (by kernel_rfl) (by kernel_rfl) (by kernel_rfl)
      (OpenSpec.preRow_of_cond 8 hx (by kernel_rfl) (fun k hk => by cases hk) (by kernel_rfl) (laid_met os))) ?_
  intro W base args ds gs before hval hW _ _ _ hL _ _
  exact contract H enc W base args ds gs before hval hW hL

theorem said : Rows.PackSumsSaid :=
  OpenClaim.holds_of_cond 7 Tryd.f7 rfl rfl rfl rfl rfl rfl rfl ⟨rfl, rfl, rfl, rfl, rfl⟩ rfl rfl rfl rfl rfl (by kernel_rfl) Tryd.func7 (by kernel_rfl)
    (of_decide_eq_true (by kernel_rfl)) (by unfold Func.isWrapper; first | (rw [if_pos (by decide +kernel)]; kernel_rfl) | (rw [if_neg (by decide +kernel)]; exact ⟨rfl, rfl⟩))
    (fun os started H enc _ F => by rw [OpenClaim.pre_eq_preRow]; exact lifted os started H enc F)

theorem plain (f : FuncId) (fn : Func) (hf : Tryd.pinned.checked.prog.funcNamed "publican/publicanlaw3.PackSums" = some f) (hfn : Tryd.pinned.checked.prog.funcs[f]? = some fn) :
    false = Tryd.pinned.checked.prog.looks [] ∧ ∀ (j : Nat) t, fn.params[j]? = some t → Tryd.pinned.checked.prog.wantsStandIn t = false := by
  obtain rfl : f = 7 := Option.some.inj ((show Tryd.prog.funcNamed "publican/publicanlaw3.PackSums" = some 7 by kernel_rfl).symm.trans hf) |>.symm
  obtain rfl : fn = Tryd.f7 := (Option.some.inj (Tryd.func7.symm.trans hfn)).symm
  refine ⟨by kernel_rfl, fun j t ht => ?_⟩
  rw [Tryd.params7] at ht
  have hm : t = 25 ∨ t = 3 ∨ t = 5 := by have := Array.mem_of_getElem? ht; simp at this; omega
  rcases hm with rfl | rfl | rfl
  · exact (show Tryd.prog.wantsStandIn 25 = false by kernel_rfl)
  · exact (show Tryd.prog.wantsStandIn 3 = false by kernel_rfl)
  · exact (show Tryd.prog.wantsStandIn 5 = false by kernel_rfl)

theorem card : Rows.PackSumsCardSaid :=
  Claim7.holds_tied_plain_at .later [] _ _ _ _ said (fun _ h => by cases h) (by kernel_rfl) (fun _ h => by cases h) packSums_row_tie rfl ⟨rfl, rfl⟩ (by kernel_rfl) rfl plain (by kernel_rfl)

end Go.Proofs.YtgjimoihbbogdaaDoor.packSums
namespace Go.Proofs.YtgjimoihbbogdaaDoor

theorem PackSums_holds : Rows.PackSumsCardSaid := packSums.card

end Go.Proofs.YtgjimoihbbogdaaDoor
