/- Proved: the law LexNumbers of package publicanlaw9 returns true for every kind and number, whatever memory it starts in, on every schedule; the table of signs of package lex holds what the program's text lays (the card ties it to that text). -/
import Derived.Test.YtnjokafpolnjhaaDoorCards
import Derived.Test.YtnjokafpolnjhaaDoorTie
import Derived.Test.YtnjokafpolnjhaaDoorSh
import Derived.Test.YtnjokafpolnjhaaDoorN5
namespace Go.Proofs.YtnjokafpolnjhaaDoor.lexNumbers
open Go.ChangeMaps (open_string shut_string)
open Go.ChangeShapes Go.WideShapes Go.ChangeAt Go.RowKit
set_option linter.unusedVariables false
set_option linter.unusedSimpArgs false

theorem ext_all (l : List UInt8) : (tx l).extract 0 (0 + l.length) = tx l := by
  rw [ext_is]
  have : tl (tx l) 0 = l := by unfold tl tx; simp
  rw [this, show 0 + l.length - 0 = l.length by omega, List.take_of_length_le (Nat.le_refl _)]
theorem litM_len (n : Nat) : (litM n).length ≤ 100 := by
  have := (dec_len (n / 100)).2
  have := padL_len (k := 2) (l := dec (n % 100)) (dec_2 (by omega))
  unfold litM
  simp
  omega
theorem litR_len (n : Nat) : (litR n).length ≤ 100 := by
  have := (dec_len (n / 10000)).2
  have := padL_len (k := 4) (l := dec (n % 10000)) (dec_4 (by omega))
  unfold litR
  simp
  omega
set_option maxRecDepth 100000 in
set_option maxHeartbeats 4000000 in
theorem in_2 (n : Nat) (w : World) (hT : Tab w) (h : n ≤ 4503599627370496) : Calls Tryd.prog 5 #[.int .i64 2, .int .i64 (n : Nat)] w fun e w' => e = .returned (.bool true) ∧ Below w.heap.size w w' := by
  have AH := hid fun w h => awake_any w h
  have TH := hid hT
  have hl : (dec n).length ≤ 100 := by have := (dec_len n).2; omega
  have LH := hid fun w => lit_2 n w h
  have CH := hid fun w h' => cut_yes (tx (dec n)) _ w (by rw [tx_sz]; omega) h' (cut_count h)
  have EX := hid (ext_all (dec n))
  have g0 : ¬ (n : Int) < 0 := by omega
  have g1 : ¬ (4503599627370496 : Int) < (n : Int) := by omega
  clear hT
  generalize (dec n).length = L at *
  generalize tx (dec n) = T at *
  go_enter Tryd.func5, Tryd.ntmps5
  go_wp2_with fail
  refine Calls.mono (AH.out _ TH.out) ?_
  rintro e w1 ⟨rfl, b1⟩
  have T1 := hid (TH.out.next b1)
  go_wp2_with fail
  refine Calls.mono (LH.out _) ?_
  rintro e w2 ⟨rfl, b2⟩
  have T2 := hid (T1.out.next b2)
  go_wp2_with fail
  refine Calls.mono (CH.out _ T2.out) ?_
  rintro e w3 ⟨⟨v, rfl, o3⟩, b3⟩
  have B3 := hid (nextB (nextB b1 b2) b3)
  obtain ⟨la, lc, lg, rd⟩ := Rd4.of o3
  obtain rfl := rd.v
  obtain rfl := rd.a (by simp)
  have k0 : w3.cell? ⟨lg, 0, none⟩ = some (.int .i64 3) := rd.c0 0 _ rfl
  have k1 : w3.cell? ⟨lg, 1, none⟩ = some (.string T) := by
    have := rd.c1 0 _ rfl
    rw [show (0 : Nat) * 4 + 1 = 1 from rfl] at this
    rw [this]
    exact congrArg (fun x => some (Value.string x)) EX.out
  have k2 : w3.cell? ⟨lg, 2, none⟩ = some (.int .i64 (n : Nat)) := rd.c2 0 _ rfl
  have k3 : w3.cell? ⟨lg, 3, none⟩ = some (.int .i64 0) := rd.c3 0 _ rfl
  clear rd o3 b1 b2 b3 EX
  go_wp2_with fail
  go_ret
  exact ⟨rfl, B3.out⟩
set_option maxRecDepth 100000 in
set_option maxHeartbeats 4000000 in
theorem in_3 (n : Nat) (w : World) (hT : Tab w) (h : n ≤ 4503599627370496) : Calls Tryd.prog 5 #[.int .i64 3, .int .i64 (n : Nat)] w fun e w' => e = .returned (.bool true) ∧ Below w.heap.size w w' := by
  have AH := hid fun w h => awake_any w h
  have TH := hid hT
  have hl := litM_len n
  have LH := hid fun w => lit_3 n w h
  have CH := hid fun w h' => cut_yes (tx (litM n)) _ w (by rw [tx_sz]; omega) h' (cut_money h)
  have EX := hid (ext_all (litM n))
  have g0 : ¬ (n : Int) < 0 := by omega
  have g1 : ¬ (4503599627370496 : Int) < (n : Int) := by omega
  clear hT
  generalize (litM n).length = L at *
  generalize tx (litM n) = T at *
  go_enter Tryd.func5, Tryd.ntmps5
  go_wp2_with fail
  refine Calls.mono (AH.out _ TH.out) ?_
  rintro e w1 ⟨rfl, b1⟩
  have T1 := hid (TH.out.next b1)
  go_wp2_with fail
  refine Calls.mono (LH.out _) ?_
  rintro e w2 ⟨rfl, b2⟩
  have T2 := hid (T1.out.next b2)
  go_wp2_with fail
  refine Calls.mono (CH.out _ T2.out) ?_
  rintro e w3 ⟨⟨v, rfl, o3⟩, b3⟩
  have B3 := hid (nextB (nextB b1 b2) b3)
  obtain ⟨la, lc, lg, rd⟩ := Rd4.of o3
  obtain rfl := rd.v
  obtain rfl := rd.a (by simp)
  have k0 : w3.cell? ⟨lg, 0, none⟩ = some (.int .i64 4) := rd.c0 0 _ rfl
  have k1 : w3.cell? ⟨lg, 1, none⟩ = some (.string T) := by
    have := rd.c1 0 _ rfl
    rw [show (0 : Nat) * 4 + 1 = 1 from rfl] at this
    rw [this]
    exact congrArg (fun x => some (Value.string x)) EX.out
  have k2 : w3.cell? ⟨lg, 2, none⟩ = some (.int .i64 (n : Nat)) := rd.c2 0 _ rfl
  have k3 : w3.cell? ⟨lg, 3, none⟩ = some (.int .i64 0) := rd.c3 0 _ rfl
  clear rd o3 b1 b2 b3 EX
  go_wp2_with fail
  go_ret
  exact ⟨rfl, B3.out⟩
set_option maxRecDepth 100000 in
set_option maxHeartbeats 4000000 in
theorem in_4 (n : Nat) (w : World) (hT : Tab w) (h : n ≤ 1000000000000) : Calls Tryd.prog 5 #[.int .i64 4, .int .i64 (n : Nat)] w fun e w' => e = .returned (.bool true) ∧ Below w.heap.size w w' := by
  have AH := hid fun w h => awake_any w h
  have TH := hid hT
  have hl := litR_len n
  have LH := hid fun w => lit_4 n w h
  have CH := hid fun w h' => cut_yes (tx (litR n)) _ w (by rw [tx_sz]; omega) h' (cut_rate h)
  have EX := hid (ext_all (litR n))
  have g0 : ¬ (n : Int) < 0 := by omega
  have g1 : ¬ (1000000000000 : Int) < (n : Int) := by omega
  clear hT
  generalize (litR n).length = L at *
  generalize tx (litR n) = T at *
  go_enter Tryd.func5, Tryd.ntmps5
  go_wp2_with fail
  refine Calls.mono (AH.out _ TH.out) ?_
  rintro e w1 ⟨rfl, b1⟩
  have T1 := hid (TH.out.next b1)
  go_wp2_with fail
  refine Calls.mono (LH.out _) ?_
  rintro e w2 ⟨rfl, b2⟩
  have T2 := hid (T1.out.next b2)
  go_wp2_with fail
  refine Calls.mono (CH.out _ T2.out) ?_
  rintro e w3 ⟨⟨v, rfl, o3⟩, b3⟩
  have B3 := hid (nextB (nextB b1 b2) b3)
  obtain ⟨la, lc, lg, rd⟩ := Rd4.of o3
  obtain rfl := rd.v
  obtain rfl := rd.a (by simp)
  have k0 : w3.cell? ⟨lg, 0, none⟩ = some (.int .i64 5) := rd.c0 0 _ rfl
  have k1 : w3.cell? ⟨lg, 1, none⟩ = some (.string T) := by
    have := rd.c1 0 _ rfl
    rw [show (0 : Nat) * 4 + 1 = 1 from rfl] at this
    rw [this]
    exact congrArg (fun x => some (Value.string x)) EX.out
  have k2 : w3.cell? ⟨lg, 2, none⟩ = some (.int .i64 (n : Nat)) := rd.c2 0 _ rfl
  have k3 : w3.cell? ⟨lg, 3, none⟩ = some (.int .i64 0) := rd.c3 0 _ rfl
  clear rd o3 b1 b2 b3 EX
  go_wp2_with fail
  go_ret
  exact ⟨rfl, B3.out⟩
set_option maxRecDepth 100000 in
set_option maxHeartbeats 4000000 in
theorem in_5 (n : Nat) (w : World) (hT : Tab w) (h : n ≤ 109572) : Calls Tryd.prog 5 #[.int .i64 5, .int .i64 (n : Nat)] w fun e w' => e = .returned (.bool true) ∧ Below w.heap.size w w' := by
  have AH := hid fun w h => awake_any w h
  have TH := hid hT
  obtain ⟨y, m, d, hd⟩ := date_exN n (by omega)
  have LH := hid fun w => lit_5 w hd
  have CH := hid fun w h' => cut_yes (tx (litD y m d)) _ w (by rw [tx_sz, litD_len]; omega) h' (cut_day hd)
  have EX := hid (show (tx (litD y m d)).extract 0 (0 + 10) = tx (litD y m d) from ext_all (litD y m d))
  rw [litD_tx] at LH
  have g0 : ¬ (n : Int) < 0 := by omega
  have g1 : ¬ (109572 : Int) < (n : Int) := by omega
  clear hT hd
  generalize tx (litD y m d) = T at *
  go_enter Tryd.func5, Tryd.ntmps5
  go_wp2_with fail
  refine Calls.mono (AH.out _ TH.out) ?_
  rintro e w1 ⟨rfl, b1⟩
  have T1 := hid (TH.out.next b1)
  go_wp2_with fail
  refine Calls.mono (LH.out _) ?_
  rintro e w2 ⟨rfl, b2⟩
  have T2 := hid (T1.out.next b2)
  go_wp2_with fail
  refine Calls.mono (CH.out _ T2.out) ?_
  rintro e w3 ⟨⟨v, rfl, o3⟩, b3⟩
  have B3 := hid (nextB (nextB b1 b2) b3)
  obtain ⟨la, lc, lg, rd⟩ := Rd4.of o3
  obtain rfl := rd.v
  obtain rfl := rd.a (by simp)
  have k0 : w3.cell? ⟨lg, 0, none⟩ = some (.int .i64 6) := rd.c0 0 _ rfl
  have k1 : w3.cell? ⟨lg, 1, none⟩ = some (.string T) := by
    have := rd.c1 0 _ rfl
    rw [show (0 : Nat) * 4 + 1 = 1 from rfl] at this
    rw [this]
    exact congrArg (fun x => some (Value.string x)) EX.out
  have k2 : w3.cell? ⟨lg, 2, none⟩ = some (.int .i64 (n : Nat)) := rd.c2 0 _ rfl
  have k3 : w3.cell? ⟨lg, 3, none⟩ = some (.int .i64 0) := rd.c3 0 _ rfl
  clear rd o3 b1 b2 b3 EX
  go_wp2_with fail
  go_ret
  exact ⟨rfl, B3.out⟩
set_option maxHeartbeats 4000000 in
theorem out_lo (k n : Int) (w : World) (hT : Tab w) (h : k < 2) : Calls Tryd.prog 5 #[.int .i64 k, .int .i64 n] w fun e w' => e = .returned (.bool true) ∧ Below w.heap.size w w' := by
  have AH := hid fun w h => awake_any w h
  have TH := hid hT
  clear hT
  go_enter Tryd.func5, Tryd.ntmps5
  go_wp2_with (go_at_call 8; refine Calls.mono (AH.out _ TH.out) ?_; rintro e w1 ⟨rfl, b1⟩)
  all_goals go_ret
  all_goals exact ⟨rfl, b1⟩
set_option maxHeartbeats 4000000 in
theorem out_hi (k n : Int) (w : World) (hT : Tab w) (h : 5 < k) : Calls Tryd.prog 5 #[.int .i64 k, .int .i64 n] w fun e w' => e = .returned (.bool true) ∧ Below w.heap.size w w' := by
  have AH := hid fun w h => awake_any w h
  have TH := hid hT
  clear hT
  have h2 : ¬ k < 2 := by omega
  go_enter Tryd.func5, Tryd.ntmps5
  go_wp2_with (go_at_call 8; refine Calls.mono (AH.out _ TH.out) ?_; rintro e w1 ⟨rfl, b1⟩)
  all_goals go_ret
  all_goals exact ⟨rfl, b1⟩
set_option maxHeartbeats 4000000 in
theorem out_neg (k n : Int) (w : World) (hT : Tab w) (h1 : 2 ≤ k) (h2 : k ≤ 5) (h : n < 0) : Calls Tryd.prog 5 #[.int .i64 k, .int .i64 n] w fun e w' => e = .returned (.bool true) ∧ Below w.heap.size w w' := by
  have AH := hid fun w h => awake_any w h
  have TH := hid hT
  clear hT
  have g1 : ¬ k < 2 := by omega
  have g2 : ¬ 5 < k := by omega
  go_enter Tryd.func5, Tryd.ntmps5
  go_wp2_with (go_at_call 8; refine Calls.mono (AH.out _ TH.out) ?_; rintro e w1 ⟨rfl, b1⟩)
  all_goals go_ret
  all_goals exact ⟨rfl, b1⟩
set_option maxHeartbeats 4000000 in
theorem out_2 (k n : Int) (w : World) (hT : Tab w) (h : 4503599627370496 < n) : Calls Tryd.prog 5 #[.int .i64 2, .int .i64 n] w fun e w' => e = .returned (.bool true) ∧ Below w.heap.size w w' := by
  have AH := hid fun w h => awake_any w h
  have TH := hid hT
  clear hT
  have g1 : ¬ n < 0 := by omega
  go_enter Tryd.func5, Tryd.ntmps5
  go_wp2_with (go_at_call 8; refine Calls.mono (AH.out _ TH.out) ?_; rintro e w1 ⟨rfl, b1⟩)
  all_goals go_ret
  all_goals exact ⟨rfl, b1⟩
set_option maxHeartbeats 4000000 in
theorem out_3 (k n : Int) (w : World) (hT : Tab w) (h : 4503599627370496 < n) : Calls Tryd.prog 5 #[.int .i64 3, .int .i64 n] w fun e w' => e = .returned (.bool true) ∧ Below w.heap.size w w' := by
  have AH := hid fun w h => awake_any w h
  have TH := hid hT
  clear hT
  have g1 : ¬ n < 0 := by omega
  go_enter Tryd.func5, Tryd.ntmps5
  go_wp2_with (go_at_call 8; refine Calls.mono (AH.out _ TH.out) ?_; rintro e w1 ⟨rfl, b1⟩)
  all_goals go_ret
  all_goals exact ⟨rfl, b1⟩
set_option maxHeartbeats 4000000 in
theorem out_4 (k n : Int) (w : World) (hT : Tab w) (h : 1000000000000 < n) : Calls Tryd.prog 5 #[.int .i64 4, .int .i64 n] w fun e w' => e = .returned (.bool true) ∧ Below w.heap.size w w' := by
  have AH := hid fun w h => awake_any w h
  have TH := hid hT
  clear hT
  have g1 : ¬ n < 0 := by omega
  go_enter Tryd.func5, Tryd.ntmps5
  go_wp2_with (go_at_call 8; refine Calls.mono (AH.out _ TH.out) ?_; rintro e w1 ⟨rfl, b1⟩)
  all_goals go_ret
  all_goals exact ⟨rfl, b1⟩
set_option maxHeartbeats 4000000 in
theorem out_5 (k n : Int) (w : World) (hT : Tab w) (h : 109572 < n) : Calls Tryd.prog 5 #[.int .i64 5, .int .i64 n] w fun e w' => e = .returned (.bool true) ∧ Below w.heap.size w w' := by
  have AH := hid fun w h => awake_any w h
  have TH := hid hT
  clear hT
  have g1 : ¬ n < 0 := by omega
  go_enter Tryd.func5, Tryd.ntmps5
  go_wp2_with (go_at_call 8; refine Calls.mono (AH.out _ TH.out) ?_; rintro e w1 ⟨rfl, b1⟩)
  all_goals go_ret
  all_goals exact ⟨rfl, b1⟩
theorem walk (w : World) (hT : Tab w) (k : Int) (hk : (Lit.int .i64 k).wf = true) (n : Int) (hn : (Lit.int .i64 n).wf = true) : Calls Tryd.prog 5 #[.int .i64 k, .int .i64 n] w fun e w' => e = .returned (.bool true) ∧ Below w.heap.size w w' := by
  by_cases c1 : k < 2
  · exact out_lo k n w hT c1
  by_cases c2 : 5 < k
  · exact out_hi k n w hT c2
  by_cases c3 : n < 0
  · exact out_neg k n w hT (by omega) (by omega) c3
  obtain ⟨m, rfl⟩ := Int.eq_ofNat_of_zero_le (show 0 ≤ n by omega)
  have e : k = 2 ∨ k = 3 ∨ k = 4 ∨ k = 5 := by omega
  rcases e with rfl | rfl | rfl | rfl
  · by_cases z : (4503599627370496 : Int) < (m : Int)
    · exact out_2 0 m w hT z
    · exact in_2 m w hT (by omega)
  · by_cases z : (4503599627370496 : Int) < (m : Int)
    · exact out_3 0 m w hT z
    · exact in_3 m w hT (by omega)
  · by_cases z : (1000000000000 : Int) < (m : Int)
    · exact out_4 0 m w hT z
    · exact in_4 m w hT (by omega)
  · by_cases z : (109572 : Int) < (m : Int)
    · exact out_5 0 m w hT z
    · exact in_5 m w hT (by omega)


theorem contract (H : Type) (enc : TypeId × Value → H) (W : World) (base : Nat) (args : Array Value) (ds gs : List (DataW H)) (before : List MemPlace)
    (hval : ∀ (j : Nat) t v, Tryd.f5.params[j]? = some t → args[j]? = some v → Value.okWide Tryd.prog W .any base t v)
    (hW : DataW.Whole enc Tryd.prog Tryd.f5.params.toList Rows.lexNumbersSpec.vars false W args.toList ds gs before) (hL : laidMetH Tryd.prog Rows.lexNumbersRow.laid W) :
    Calls Tryd.prog 5 args W fun e W' => ∃ v, e = .returned v ∧ Rows.lexNumbersSpec.post enc Tryd.prog Tryd.f5 false true false false W args v W' := by
  have hW' := hW
  obtain ⟨p, q, hA0, hV, rfl, hfz, hnd⟩ := hW
  have hA : DataW.TrodAll enc Tryd.prog W 0 (fun _ => true) true Tryd.f5.params.toList args.toList ds p := hA0
  have hT : Tab W := tab_of hL
  rw [Tryd.params5] at hA hval
  obtain ⟨v0, vs0, d0, ds0, p0, q0, hargs, rfl, rfl, h0, r0⟩ := trodAll_cons hA
  obtain ⟨v1, vs1, d1, ds1, p1, q1, rfl, rfl, rfl, h1, r1⟩ := trodAll_cons r0
  obtain ⟨rfl, rfl, rfl⟩ := trodAll_nil r1
  obtain rfl : args = #[v0, v1] := by cases args; simp_all
  obtain ⟨rfl, rfl⟩ := trodVars_none hV
  obtain ⟨a0, rfl, rfl, rfl, w0⟩ := open_int Tryd.underlying3 (hval 0 3 v0 rfl rfl) h0
  obtain ⟨a1, rfl, rfl, rfl, w1⟩ := open_int Tryd.underlying2 (hval 1 2 v1 rfl rfl) h1
  clear hA0
  refine (walk W hT a0 w0 a1 w1).mono fun e W' ⟨he, bel⟩ => ?_
  subst he
  exact ⟨_, rfl, _, _, _, [], _, [], hW', trodAll_mk1 (shut_bool Tryd.underlying4 _), (trodAll_cons_mk (shut_int Tryd.underlying3 w0) (trodAll_cons_mk (shut_int Tryd.underlying2 w1) trodAll_mk0)), rfl, bel.frame _, fun h => by cases h⟩

/-- A world for the witness: the table laid. -/
noncomputable def laidWorld (os : Os) : World :=
  { World.holding Tryd.prog os ⟨#[], #[], []⟩ with heap := (World.holding Tryd.prog os ⟨#[], #[], []⟩).heap.modify 0 fun
      | .cells _ t frozen => .cells (sgl.map fun z => Value.string (tx z)).toArray t frozen
      | o => o }
theorem laid_met (os : Os) : laidMet Tryd.prog Rows.lexNumbersRow.laid ((laidWorld os).forCall (fun _ _ => 0) ⟨#[], #[.int .i64 0, .int .i64 0], []⟩).memory :=
  laidMet_of_run' 8 (by kernel_rfl) (by kernel_rfl)
theorem reads (os : Os) {H : Type} (enc : TypeId × Value → H) : ∃ places, DataW.whole enc Tryd.prog ((laidWorld os).forCall (fun _ _ => 0) ⟨#[], #[.int .i64 0, .int .i64 0], []⟩).memory Tryd.f5.params.toList Rows.lexNumbersSpec.vars false (#[.int .i64 0, .int .i64 0] : Array Value).toList 8 = some ([.lit (.int .i64 0), .lit (.int .i64 0)], [], places) :=
  ⟨[], by kernel_rfl⟩

set_option maxRecDepth 100000 in
theorem lifted (os : Os) (started : os.Started) (H : Type) (enc : TypeId × Value → H) (F : Stop.Interp) :
    ReturnsInHanded {} Tryd.checked os 5 .any ((OpenSpec.ofChange Rows.lexNumbersSpec).preRow enc Tryd.prog Tryd.f5 Rows.lexNumbersRow.domain false Rows.lexNumbersRow.laid) (((OpenSpec.ofChange Rows.lexNumbersSpec).at F).post enc Tryd.prog Tryd.f5 false true false false) := by
  obtain ⟨places, hx⟩ := reads os enc
  refine returnsInHanded_of_row (C := Tryd.checked) (s := OpenSpec.ofChange Rows.lexNumbersSpec) own started (by kernel_rfl) Tryd.func5
    (witness_row_at (enc := enc) (C := Tryd.checked) false (laidWorld os) #[.int .i64 0, .int .i64 0] rfl (by kernel_rfl) (by kernel_rfl) (by kernel_rfl)
      (OpenSpec.preRow_of_cond 8 hx (by kernel_rfl) (fun k hk => by cases hk) (by kernel_rfl) (laid_met os))) ?_
  intro W base args ds gs before hval hW _ _ _ hL _ _
  exact contract H enc W base args ds gs before hval hW hL

theorem said : Rows.LexNumbersSaid :=
  OpenClaim.holds_of_cond 5 Tryd.f5 rfl rfl rfl rfl rfl rfl rfl ⟨rfl, rfl, rfl, rfl, rfl⟩ rfl rfl rfl rfl rfl (by kernel_rfl) Tryd.func5 (by kernel_rfl)
    (of_decide_eq_true (by kernel_rfl)) (by unfold Func.isWrapper; first | (rw [if_pos (by decide +kernel)]; kernel_rfl) | (rw [if_neg (by decide +kernel)]; exact ⟨rfl, rfl⟩))
    (fun os started H enc _ F => by rw [OpenClaim.pre_eq_preRow]; exact lifted os started H enc F)

theorem plain (f : FuncId) (fn : Func) (hf : Tryd.pinned.checked.prog.funcNamed "publican/publicanlaw9.LexNumbers" = some f) (hfn : Tryd.pinned.checked.prog.funcs[f]? = some fn) :
    false = Tryd.pinned.checked.prog.looks [] ∧ ∀ (j : Nat) t, fn.params[j]? = some t → Tryd.pinned.checked.prog.wantsStandIn t = false := by
  obtain rfl : f = 5 := Option.some.inj ((show Tryd.prog.funcNamed "publican/publicanlaw9.LexNumbers" = some 5 by kernel_rfl).symm.trans hf) |>.symm
  obtain rfl : fn = Tryd.f5 := (Option.some.inj (Tryd.func5.symm.trans hfn)).symm
  refine ⟨by kernel_rfl, fun j t ht => ?_⟩
  rw [Tryd.params5] at ht
  have hm : t = 3 ∨ t = 2 := by have := Array.mem_of_getElem? ht; simp at this; omega
  rcases hm with rfl | rfl
  · exact (show Tryd.prog.wantsStandIn 3 = false by kernel_rfl)
  · exact (show Tryd.prog.wantsStandIn 2 = false by kernel_rfl)

theorem card : Rows.LexNumbersCardSaid :=
  Claim7.holds_tied_plain_at .later [] _ _ _ _ said (fun _ h => by cases h) (by kernel_rfl) (fun _ h => by cases h) lexNumbers_row_tie rfl ⟨rfl, rfl⟩ (by kernel_rfl) rfl plain (by kernel_rfl)

end Go.Proofs.YtnjokafpolnjhaaDoor.lexNumbers
namespace Go.Proofs.YtnjokafpolnjhaaDoor

theorem LexNumbers_holds : Rows.LexNumbersCardSaid := lexNumbers.card

end Go.Proofs.YtnjokafpolnjhaaDoor
