/- Proved: the law LexCuts of package publicanlaw9 returns true for every text, whatever memory it starts in, on every schedule; the table of signs of package lex holds what the program's text lays (the card ties it to that text). -/
import Derived.Test.YtnjokafpolnjhaaDoorCards
import Derived.Test.YtnjokafpolnjhaaDoorTie
import Derived.Test.YtnjokafpolnjhaaDoorSh
import Derived.Test.YtnjokafpolnjhaaDoorBt
import Derived.Test.YtnjokafpolnjhaaDoorY7
namespace Go.Proofs.YtnjokafpolnjhaaDoor.lexCuts
open Go.ChangeMaps (open_string shut_string)
open Go.ChangeShapes Go.WideShapes Go.ChangeAt Go.RowKit
set_option linter.unusedVariables false
set_option linter.unusedSimpArgs false

theorem rd_next {w w' : World} {v : Value} {s : ByteArray} {R : List Wd} {a : Option Addr} {c b : Nat} (h : Rd4 w v s R a c b) (hb : Below w.heap.size w w') : Rd4 w' v s R a c b := by
  have k : ∀ (i j : Nat) (u : Value), w.cell? ⟨b, i * 4 + j, none⟩ = some u → w'.cell? ⟨b, i * 4 + j, none⟩ = some u := fun i j u hu => by
    rw [hb.cell (p := ⟨b, i * 4 + j, none⟩) (World.block_lt_of_cell? _ _ hu)]
    exact hu
  exact ⟨h.v, h.a, fun i x hx => k i 0 _ (h.c0 i x hx), fun i x hx => k i 1 _ (h.c1 i x hx), fun i x hx => k i 2 _ (h.c2 i x hx), fun i x hx => k i 3 _ (h.c3 i x hx)⟩
theorem ycut_yes (s : ByteArray) (R : List Wd) (w : World) (hs : s.size ≤ 3000) (h : cutF s 0 = (R, none)) :
    Calls Tryd.prog 10 #[.string s] w fun e w' => (∃ v, e = .returned (.tuple #[v, .int .i64 (-1)]) ∧ Rw w' w.heap.size 33 s v R) ∧ Below w.heap.size w w' :=
  (YCut_any s w hs).mono fun e w' ⟨hb, hm⟩ => by
    rw [h] at hm
    exact ⟨hm, hb⟩
theorem ycut_no (s : ByteArray) (R : List Wd) (b : Nat) (w : World) (hs : s.size ≤ 3000) (h : cutF s 0 = (R, some b)) :
    Calls Tryd.prog 10 #[.string s] w fun e w' => e = .returned (.tuple #[.slice none 0 0, .int .i64 (b : Nat)]) ∧ Below w.heap.size w w' :=
  (YCut_any s w hs).mono fun e w' ⟨hb, hm⟩ => by
    rw [h] at hm
    exact ⟨hm, hb⟩
set_option maxRecDepth 100000 in
set_option maxHeartbeats 8000000 in
theorem walk (w : World) (hT : Tab w) (s : ByteArray) (hs : s.size ≤ maxLen) : Calls Tryd.prog 4 #[.string s] w fun e w' => e = .returned (.bool true) ∧ Below w.heap.size w w' := by
  have AH := hid fun w h => awake_any w h
  have TH := hid hT
  clear hT
  have h9 : s.size ≤ 9223372036854775807 := hs
  clear hs
  by_cases q : s.size ≤ 3000
  · have q' : ¬ (3000 : Int) < (s.size : Int) := by omega
    cases hc : cutF s 0 with
    | mk R o =>
      cases o with
      | some b =>
        have CH := hid fun w h => cut_no s R b w (by omega) h hc
        have YH := hid fun w => ycut_no s R b w (by omega) hc
        clear hc
        have b0 : (0 : Int) ≤ (b : Int) := by omega
        go_enter Tryd.func4, Tryd.ntmps4
        go_wp2_with fail
        refine Calls.mono (AH.out _ TH.out) ?_
        rintro e w1 ⟨rfl, b1⟩
        have T1 := hid (TH.out.next b1)
        go_wp2_with fail
        refine Calls.mono (CH.out _ T1.out) ?_
        rintro e w2 ⟨rfl, b2⟩
        go_wp2_with fail
        refine Calls.mono (YH.out _) ?_
        rintro e w3 ⟨rfl, b3⟩
        have B3 := hid (nextB (nextB b1 b2) b3)
        go_wp2_with fail
        go_ret
        exact ⟨rfl, B3.out⟩
      | none =>
        have CH := hid fun w h => cut_yes s R w (by omega) h hc
        have YH := hid fun w => ycut_yes s R w (by omega) hc
        obtain ⟨l1, l2, l3⟩ := cut_in s s.size 0 R (by omega) (by omega) hc
        clear hc l2 l3
        go_enter Tryd.func4, Tryd.ntmps4
        go_wp2_with fail
        refine Calls.mono (AH.out _ TH.out) ?_
        rintro e w1 ⟨rfl, b1⟩
        have T1 := hid (TH.out.next b1)
        go_wp2_with fail
        refine Calls.mono (CH.out _ T1.out) ?_
        rintro e w2 ⟨⟨v, rfl, o2⟩, b2⟩
        obtain ⟨la, lc, lg, rd⟩ := Rd4.of o2
        obtain rfl := rd.v
        have LA := hid rd.a
        have RD := hid rd
        have B2 := hid (nextB b1 b2)
        clear rd o2 b1 b2 AH TH T1 CH
        go_wp2_with fail
        refine Calls.mono (YH.out _) ?_
        rintro e w4 ⟨⟨v2, rfl, o4⟩, b4⟩
        obtain ⟨ma, mc, mg, md⟩ := Rd4.of o4
        obtain rfl := md.v
        have MA := hid md.a
        have MD := hid md
        have LD := hid (rd_next RD.out b4)
        have B4 := hid (nextB B2.out b4)
        clear md o4 b4 RD B2 YH
        go_wp2_with fail
        go_loopg [8] (R.length + 1) (fun g iv wr => ∃ i : Nat, i ≤ R.length ∧ g = R.length + 1 - i ∧ iv = .int .i64 (i : Nat) ∧ Hid (Below w4.heap.size w4 wr))
        case atStart => exact ⟨0, Nat.zero_le _, rfl, rfl, Below.refl _ _⟩
        case round =>
          obtain ⟨i, hi, rfl, rfl, HB⟩ := hrel
          by_cases qi : i < R.length
          · obtain rfl := LA.out (by omega)
            obtain rfl := MA.out (by omega)
            have qi' : (i : Int) < (R.length : Int) := by omega
            obtain ⟨⟨xk, xn, xv, xp⟩, hx⟩ : ∃ x, R[i]? = some x := ⟨R[i], List.getElem?_eq_getElem qi⟩
            have rn := rd_next LD.out HB.out
            have rm := rd_next MD.out HB.out
            have k0 := rn.c0 i _ hx
            have k1 := rn.c1 i _ hx
            have k2 := rn.c2 i _ hx
            have k3 := rn.c3 i _ hx
            have m0 := rm.c0 i _ hx
            have m1 := rm.c1 i _ hx
            have m2 := rm.c2 i _ hx
            have m3 := rm.c3 i _ hx
            dsimp only at k0 k1 k2 k3 m0 m1 m2 m3
            generalize s.extract xp (xp + xn) = T at *
            clear rn rm hx
            go_upto_region 14 with fail
            go_quiet (fail)
            have B3 := hid (nextB HB.out (below_drewN wr nq))
            generalize wr.drewN nq = w3 at *
            go_wp2_with fail
            go_roundg (R.length + 1 - (i + 1))
            case measure => omega
            case rel => exact ⟨i + 1, by omega, rfl, by rw [Int.natCast_add]; rfl, B3⟩
          · obtain rfl : i = R.length := by omega
            have qi' : ¬ (R.length : Int) < (R.length : Int) := by omega
            go_wp2_with fail
            go_ret
            exact ⟨rfl, nextB B4.out HB.out⟩
  · have q' : (3000 : Int) < (s.size : Int) := by omega
    go_enter Tryd.func4, Tryd.ntmps4
    go_wp2_with (first | (go_at_call 8; refine Calls.mono (AH.out _ TH.out) ?_; rintro e w1 ⟨rfl, b1⟩))
    go_ret
    exact ⟨rfl, b1⟩


theorem contract (H : Type) (enc : TypeId × Value → H) (W : World) (base : Nat) (args : Array Value) (ds gs : List (DataW H)) (before : List MemPlace)
    (hval : ∀ (j : Nat) t v, Tryd.f4.params[j]? = some t → args[j]? = some v → Value.okWide Tryd.prog W .any base t v)
    (hW : DataW.Whole enc Tryd.prog Tryd.f4.params.toList Rows.lexCutsSpec.vars false W args.toList ds gs before) (hL : laidMetH Tryd.prog Rows.lexCutsRow.laid W) :
    Calls Tryd.prog 4 args W fun e W' => ∃ v, e = .returned v ∧ Rows.lexCutsSpec.post enc Tryd.prog Tryd.f4 false true false false W args v W' := by
  have hW' := hW
  obtain ⟨p, q, hA0, hV, rfl, hfz, hnd⟩ := hW
  have hA : DataW.TrodAll enc Tryd.prog W 0 (fun _ => true) true Tryd.f4.params.toList args.toList ds p := hA0
  have hT : Tab W := tab_of hL
  rw [Tryd.params4] at hA hval
  obtain ⟨v0, vs0, d0, ds0, p0, q0, hargs, rfl, rfl, h0, r0⟩ := trodAll_cons hA
  obtain ⟨rfl, rfl, rfl⟩ := trodAll_nil r0
  obtain rfl : args = #[v0] := by cases args; simp_all
  obtain ⟨rfl, rfl⟩ := trodVars_none hV
  obtain ⟨a0, rfl, rfl, rfl, w0⟩ := open_string Tryd.underlying9 (hval 0 9 v0 rfl rfl) h0
  clear hA0
  refine (walk W hT a0 w0).mono fun e W' ⟨he, bel⟩ => ?_
  subst he
  exact ⟨_, rfl, _, _, _, [], _, [], hW', trodAll_mk1 (shut_bool Tryd.underlying4 _), (trodAll_cons_mk (shut_string Tryd.underlying9 w0) trodAll_mk0), rfl, bel.frame _, fun h => by cases h⟩

/-- A world for the witness: the table laid. -/
noncomputable def laidWorld (os : Os) : World :=
  { World.holding Tryd.prog os ⟨#[], #[], []⟩ with heap := (World.holding Tryd.prog os ⟨#[], #[], []⟩).heap.modify 0 fun
      | .cells _ t frozen => .cells (sgl.map fun z => Value.string (tx z)).toArray t frozen
      | o => o }
theorem laid_met (os : Os) : laidMet Tryd.prog Rows.lexCutsRow.laid ((laidWorld os).forCall (fun _ _ => 0) ⟨#[], #[.string ByteArray.empty], []⟩).memory :=
  laidMet_of_run' 8 (by kernel_rfl) (by kernel_rfl)
theorem reads (os : Os) {H : Type} (enc : TypeId × Value → H) : ∃ places, DataW.whole enc Tryd.prog ((laidWorld os).forCall (fun _ _ => 0) ⟨#[], #[.string ByteArray.empty], []⟩).memory Tryd.f4.params.toList Rows.lexCutsSpec.vars false (#[.string ByteArray.empty] : Array Value).toList 8 = some ([.lit (.string [])], [], places) :=
  ⟨[], by kernel_rfl⟩

set_option maxRecDepth 100000 in
theorem lifted (os : Os) (started : os.Started) (H : Type) (enc : TypeId × Value → H) (F : Stop.Interp) :
    ReturnsInHanded {} Tryd.checked os 4 .any ((OpenSpec.ofChange Rows.lexCutsSpec).preRow enc Tryd.prog Tryd.f4 Rows.lexCutsRow.domain false Rows.lexCutsRow.laid) (((OpenSpec.ofChange Rows.lexCutsSpec).at F).post enc Tryd.prog Tryd.f4 false true false false) := by
  obtain ⟨places, hx⟩ := reads os enc
  refine returnsInHanded_of_row (C := Tryd.checked) (s := OpenSpec.ofChange Rows.lexCutsSpec) own started (by kernel_rfl) Tryd.func4
    (witness_row_at (enc := enc) (C := Tryd.checked) false (laidWorld os) #[.string ByteArray.empty] rfl (by kernel_rfl) (by kernel_rfl) (by kernel_rfl)
      (OpenSpec.preRow_of_cond 8 hx (by kernel_rfl) (fun k hk => by cases hk) (by kernel_rfl) (laid_met os))) ?_
  intro W base args ds gs before hval hW _ _ _ hL _ _
  exact contract H enc W base args ds gs before hval hW hL

theorem said : Rows.LexCutsSaid :=
  OpenClaim.holds_of_cond 4 Tryd.f4 rfl rfl rfl rfl rfl rfl rfl ⟨rfl, rfl, rfl, rfl, rfl⟩ rfl rfl rfl rfl rfl (by kernel_rfl) Tryd.func4 (by kernel_rfl)
    (of_decide_eq_true (by kernel_rfl)) (by unfold Func.isWrapper; first | (rw [if_pos (by decide +kernel)]; kernel_rfl) | (rw [if_neg (by decide +kernel)]; exact ⟨rfl, rfl⟩))
    (fun os started H enc _ F => by rw [OpenClaim.pre_eq_preRow]; exact lifted os started H enc F)

theorem plain (f : FuncId) (fn : Func) (hf : Tryd.pinned.checked.prog.funcNamed "publican/publicanlaw9.LexCuts" = some f) (hfn : Tryd.pinned.checked.prog.funcs[f]? = some fn) :
    false = Tryd.pinned.checked.prog.looks [] ∧ ∀ (j : Nat) t, fn.params[j]? = some t → Tryd.pinned.checked.prog.wantsStandIn t = false := by
  obtain rfl : f = 4 := Option.some.inj ((show Tryd.prog.funcNamed "publican/publicanlaw9.LexCuts" = some 4 by kernel_rfl).symm.trans hf) |>.symm
  obtain rfl : fn = Tryd.f4 := (Option.some.inj (Tryd.func4.symm.trans hfn)).symm
  refine ⟨by kernel_rfl, fun j t ht => ?_⟩
  rw [Tryd.params4] at ht
  obtain rfl : t = 9 := by simpa using Array.mem_of_getElem? ht
  exact (show Tryd.prog.wantsStandIn 9 = false by kernel_rfl)

theorem card : Rows.LexCutsCardSaid :=
  Claim7.holds_tied_plain_at .later [] _ _ _ _ said (fun _ h => by cases h) (by kernel_rfl) (fun _ h => by cases h) lexCuts_row_tie rfl ⟨rfl, rfl⟩ (by kernel_rfl) rfl plain (by kernel_rfl)

end Go.Proofs.YtnjokafpolnjhaaDoor.lexCuts
namespace Go.Proofs.YtnjokafpolnjhaaDoor

theorem LexCuts_holds : Rows.LexCutsCardSaid := lexCuts.card

end Go.Proofs.YtnjokafpolnjhaaDoor
