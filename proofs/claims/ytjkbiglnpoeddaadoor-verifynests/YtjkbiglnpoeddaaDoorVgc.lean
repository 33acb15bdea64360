/- The walk over VerifyKnown. -/
import Derived.Test.YtjkbiglnpoeddaaDoorVgb
namespace Go.Proofs.YtjkbiglnpoeddaaDoor.Vf
open Go.RowKit
set_option linter.unusedVariables false
set_option linter.unusedSimpArgs false

theorem vwI (w : World) (T : TypeId) (xs : List Int) (h : ∀ x, x ∈ xs → 0 ≤ x ∧ x ≤ 1000000) : Vw aI 1 (w.alloc (.cells (xs.map (Value.int .i64)).toArray T)) (some ⟨w.heap.size, 0, none⟩) xs.length xs :=
  ⟨rfl, w.heap.size, 0, fun _ => rfl, fun i x hx => by
    refine ⟨?_, ok_small (h x (List.mem_of_getElem? hx)).1 (h x (List.mem_of_getElem? hx)).2⟩
    rw [Nat.zero_add, Nat.mul_one]
    exact cells_new w _ T i _ (by rw [List.getElem?_map, hx]; rfl)⟩
theorem vwS1 (w : World) (T : TypeId) (s : ByteArray) (hs : s.size ≤ 1000) : Vw aS 1 (w.alloc (.cells #[.string s] T)) (some ⟨w.heap.size, 0, none⟩) 1 [nums s] :=
  ⟨rfl, w.heap.size, 0, fun _ => rfl, fun i x hx => by
    obtain rfl : i = 0 := by
      have := (List.getElem?_eq_some_iff.1 hx).1
      simp at this
      exact this
    simp at hx
    subst hx
    exact ⟨s, cells_new w [.string s] T 0 _ rfl, rfl, by unfold maxLen; omega⟩⟩
set_option maxRecDepth 100000 in
set_option maxHeartbeats 8000000 in
theorem known_walk (w : World) (hT : RT w) : Calls Tryd.prog 3 #[] w fun e w' => e = .returned (.bool true) ∧ Below w.heap.size w w' := by
  have T := hid hT
  have KW := hid (awake_any w hT)
  clear hT
  go_enter Tryd.func3, Tryd.ntmps3
  go_upto_region 3 with (go_at_call 5; (with_reducible refine Calls.mono KW.out ?_); rintro e w0 ⟨rfl, b0⟩; have B0 := hid b0; clear b0)
  have BA := hid B0.out
  have AL := hid (Below.refl w0.heap.size w0)
  have KC := hid (show Calls Tryd.prog 6 #[.agg #[.slice none 0 0, .slice none 0 0, .slice none 0 0, .slice none 0 0, .slice none 0 0, .slice none 0 0, .slice none 0 0]] w0 (fun e w' => e = .returned (.tuple #[.agg #[.int .i64 0, .int .i64 0], .agg #[.int .i64 (-1), .int .i64 1], .bool false]) ∧ Below w0.heap.size w0 w') from chk_co (co := []) (c := 0) (Vw.empty _ _ _) (T.out.next BA.out) (by decide) ck_nil (fun _ _ _ => rst_all (by decide)))
  go_upto_region 4 with (go_at_call 6; (with_reducible refine Calls.mono KC.out ?_); rintro e v1 ⟨rfl, b9⟩; have BN := hid (nxB BA.out b9); have BM := hid (nxB AL.out b9); clear b9)
  have TW := hid (tw2 v1 (.int .i64 0) (.int .i64 0) (.int .i64 (-1)) (.int .i64 1))
  have BO := hid (nxB BM.out TW.out.2.2)
  have B1 := hid (nxB BN.out TW.out.2.2)
  have Fa := hid TW.out.2.1
  clear TW KC BA AL BN BM BO B0
  generalize World.alloc (World.alloc v1 _) _ = w1 at *
  generalize v1.heap.size + 1 = fa at *
  generalize v1.heap.size = ba at *
  have AL := hid (allocB w1 (.cells #[.int .i64 17, .int .i64 1, .int .i64 0, .int .i64 0] 37))
  have VN := hid (show Vw aN 4 (w1.alloc (.cells #[.int .i64 17, .int .i64 1, .int .i64 0, .int .i64 0] 37)) (some ⟨w1.heap.size, 0, none⟩) 1 [(17, 1, 0, 0)] from vwN w1 _ [(17, 1, 0, 0)] (by decide) (by decide))
  have BA := hid (nxB B1.out AL.out)
  have KC := hid (show Calls Tryd.prog 6 #[.agg #[.slice none 0 0, .slice none 0 0, .slice none 0 0, .slice none 0 0, .slice none 0 0, .slice none 0 0, .slice (some ⟨w1.heap.size, 0, none⟩) 1 1]] (w1.alloc (.cells #[.int .i64 17, .int .i64 1, .int .i64 0, .int .i64 0] 37)) (fun e w' => e = .returned (.tuple #[.agg #[.int .i64 0, .int .i64 0], .agg #[.int .i64 (0), .int .i64 2], .bool false]) ∧ Below (w1.alloc (.cells #[.int .i64 17, .int .i64 1, .int .i64 0, .int .i64 0] 37)).heap.size (w1.alloc (.cells #[.int .i64 17, .int .i64 1, .int .i64 0, .int .i64 0] 37)) w') from chk_co (co := [(17, 1, 0, 0)]) (c := 1) VN.out (T.out.next BA.out) (by decide) ck_b (fun h => absurd h (by decide +kernel)))
  go_upto_region 5 with (go_at_call 6; (with_reducible refine Calls.mono KC.out ?_); rintro e v2 ⟨rfl, b9⟩; have BN := hid (nxB BA.out b9); have BM := hid (nxB AL.out b9); clear b9)
  have TW := hid (tw2 v2 (.int .i64 0) (.int .i64 0) (.int .i64 (0)) (.int .i64 2))
  have BO := hid (nxB BM.out TW.out.2.2)
  have Fa := hid (Bx.next Fa.out BO.out)
  have B2 := hid (nxB BN.out TW.out.2.2)
  have Fb := hid TW.out.2.1
  clear TW KC BA AL BN BM BO VN B1
  generalize World.alloc (World.alloc v2 _) _ = w2 at *
  generalize v2.heap.size + 1 = fb at *
  generalize v2.heap.size = bb at *
  have AL := hid (allocB w2 (.cells #[.int .i64 0, .int .i64 0, .int .i64 0, .int .i64 0, .int .i64 23, .int .i64 0, .int .i64 0, .int .i64 0] 37))
  have VN := hid (show Vw aN 4 (w2.alloc (.cells #[.int .i64 0, .int .i64 0, .int .i64 0, .int .i64 0, .int .i64 23, .int .i64 0, .int .i64 0, .int .i64 0] 37)) (some ⟨w2.heap.size, 0, none⟩) 2 [(0, 0, 0, 0), (23, 0, 0, 0)] from vwN w2 _ [(0, 0, 0, 0), (23, 0, 0, 0)] (by decide) (by decide))
  have BA := hid (nxB B2.out AL.out)
  have KC := hid (show Calls Tryd.prog 6 #[.agg #[.slice none 0 0, .slice none 0 0, .slice none 0 0, .slice none 0 0, .slice none 0 0, .slice none 0 0, .slice (some ⟨w2.heap.size, 0, none⟩) 2 2]] (w2.alloc (.cells #[.int .i64 0, .int .i64 0, .int .i64 0, .int .i64 0, .int .i64 23, .int .i64 0, .int .i64 0, .int .i64 0] 37)) (fun e w' => e = .returned (.tuple #[.agg #[.int .i64 0, .int .i64 0], .agg #[.int .i64 (0), .int .i64 3], .bool false]) ∧ Below (w2.alloc (.cells #[.int .i64 0, .int .i64 0, .int .i64 0, .int .i64 0, .int .i64 23, .int .i64 0, .int .i64 0, .int .i64 0] 37)).heap.size (w2.alloc (.cells #[.int .i64 0, .int .i64 0, .int .i64 0, .int .i64 0, .int .i64 23, .int .i64 0, .int .i64 0, .int .i64 0] 37)) w') from chk_co (co := [(0, 0, 0, 0), (23, 0, 0, 0)]) (c := 2) VN.out (T.out.next BA.out) (by decide) ck_c (fun _ h => absurd h (by decide +kernel)))
  go_upto_region 6 with (go_at_call 6; (with_reducible refine Calls.mono KC.out ?_); rintro e v3 ⟨rfl, b9⟩; have BN := hid (nxB BA.out b9); have BM := hid (nxB AL.out b9); clear b9)
  have TW := hid (tw2 v3 (.int .i64 0) (.int .i64 0) (.int .i64 (0)) (.int .i64 3))
  have BO := hid (nxB BM.out TW.out.2.2)
  have Fa := hid (Bx.next Fa.out BO.out)
  have Fb := hid (Bx.next Fb.out BO.out)
  have B3 := hid (nxB BN.out TW.out.2.2)
  have Fc := hid TW.out.2.1
  clear TW KC BA AL BN BM BO VN B2
  generalize World.alloc (World.alloc v3 _) _ = w3 at *
  generalize v3.heap.size + 1 = fc at *
  generalize v3.heap.size = bc at *
  have AL := hid (allocB w3 (.cells #[.int .i64 17, .int .i64 0, .int .i64 0, .int .i64 0, .int .i64 23, .int .i64 0, .int .i64 0, .int .i64 0] 37))
  have VN := hid (show Vw aN 4 (w3.alloc (.cells #[.int .i64 17, .int .i64 0, .int .i64 0, .int .i64 0, .int .i64 23, .int .i64 0, .int .i64 0, .int .i64 0] 37)) (some ⟨w3.heap.size, 0, none⟩) 2 [(17, 0, 0, 0), (23, 0, 0, 0)] from vwN w3 _ [(17, 0, 0, 0), (23, 0, 0, 0)] (by decide) (by decide))
  have BA := hid (nxB B3.out AL.out)
  have KC := hid (show Calls Tryd.prog 6 #[.agg #[.slice none 0 0, .slice none 0 0, .slice none 0 0, .slice none 0 0, .slice none 0 0, .slice none 0 0, .slice (some ⟨w3.heap.size, 0, none⟩) 2 2]] (w3.alloc (.cells #[.int .i64 17, .int .i64 0, .int .i64 0, .int .i64 0, .int .i64 23, .int .i64 0, .int .i64 0, .int .i64 0] 37)) (fun e w' => e = .returned (.tuple #[.agg #[.int .i64 0, .int .i64 0], .agg #[.int .i64 (0), .int .i64 4], .bool false]) ∧ Below (w3.alloc (.cells #[.int .i64 17, .int .i64 0, .int .i64 0, .int .i64 0, .int .i64 23, .int .i64 0, .int .i64 0, .int .i64 0] 37)).heap.size (w3.alloc (.cells #[.int .i64 17, .int .i64 0, .int .i64 0, .int .i64 0, .int .i64 23, .int .i64 0, .int .i64 0, .int .i64 0] 37)) w') from chk_co (co := [(17, 0, 0, 0), (23, 0, 0, 0)]) (c := 2) VN.out (T.out.next BA.out) (by decide) ck_d (fun _ _ h => absurd h (by decide +kernel)))
  go_upto_region 7 with (go_at_call 6; (with_reducible refine Calls.mono KC.out ?_); rintro e v4 ⟨rfl, b9⟩; have BN := hid (nxB BA.out b9); have BM := hid (nxB AL.out b9); clear b9)
  have TW := hid (tw2 v4 (.int .i64 0) (.int .i64 0) (.int .i64 (0)) (.int .i64 4))
  have BO := hid (nxB BM.out TW.out.2.2)
  have Fa := hid (Bx.next Fa.out BO.out)
  have Fb := hid (Bx.next Fb.out BO.out)
  have Fc := hid (Bx.next Fc.out BO.out)
  have B4 := hid (nxB BN.out TW.out.2.2)
  have Fd := hid TW.out.2.1
  clear TW KC BA AL BN BM BO VN B3
  generalize World.alloc (World.alloc v4 _) _ = w4 at *
  generalize v4.heap.size + 1 = fd at *
  generalize v4.heap.size = bd at *
  have V1 := hid (show Vw aI 1 (w4.alloc (.cells #[.int .i64 2] 38)) (some ⟨w4.heap.size, 0, none⟩) 1 [2] from vwI w4 _ [2] (by decide))
  have A1 := hid (allocB w4 (.cells #[.int .i64 2] 38))
  have V2 := hid (show Vw aS 1 ((w4.alloc (.cells #[.int .i64 2] 38)).alloc (.cells #[.string ⟨#[97]⟩] 9)) (some ⟨(w4.alloc (.cells #[.int .i64 2] 38)).heap.size, 0, none⟩) 1 [[97]] from vwS1 _ _ ⟨#[97]⟩ (by decide))
  have A2 := hid (allocB (w4.alloc (.cells #[.int .i64 2] 38)) (.cells #[.string ⟨#[97]⟩] 9))
  have V3 := hid (show Vw aN 4 (((w4.alloc (.cells #[.int .i64 2] 38)).alloc (.cells #[.string ⟨#[97]⟩] 9)).alloc (.cells #[.int .i64 23, .int .i64 0, .int .i64 0, .int .i64 0] 37)) (some ⟨((w4.alloc (.cells #[.int .i64 2] 38)).alloc (.cells #[.string ⟨#[97]⟩] 9)).heap.size, 0, none⟩) 1 [(23, 0, 0, 0)] from vwN _ _ [(23, 0, 0, 0)] (by decide) (by decide))
  have A3 := hid (allocB ((w4.alloc (.cells #[.int .i64 2] 38)).alloc (.cells #[.string ⟨#[97]⟩] 9)) (.cells #[.int .i64 23, .int .i64 0, .int .i64 0, .int .i64 0] 37))
  have AL := hid (nxB (nxB A1.out A2.out) A3.out)
  have BA := hid (nxB B4.out AL.out)
  have z1 : (w4.alloc (.cells #[.int .i64 2] 38)).heap.size = w4.heap.size + 1 := by simp
  have z2 : ((w4.alloc (.cells #[.int .i64 2] 38)).alloc (.cells #[.string ⟨#[97]⟩] 9)).heap.size = w4.heap.size + 1 + 1 := by simp
  have KC := hid (show Calls Tryd.prog 6 #[.agg #[.slice none 0 0, .slice none 0 0, .slice none 0 0, .slice (some ⟨w4.heap.size, 0, none⟩) 1 1, .slice none 0 0, .slice (some ⟨w4.heap.size + 1, 0, none⟩) 1 1, .slice (some ⟨w4.heap.size + 1 + 1, 0, none⟩) 1 1]] (((w4.alloc (.cells #[.int .i64 2] 38)).alloc (.cells #[.string ⟨#[97]⟩] 9)).alloc (.cells #[.int .i64 23, .int .i64 0, .int .i64 0, .int .i64 0] 37)) (fun e w' => e = .returned (.tuple #[.agg #[.int .i64 0, .int .i64 0], .agg #[.int .i64 (0), .int .i64 6], .bool false]) ∧ Below (((w4.alloc (.cells #[.int .i64 2] 38)).alloc (.cells #[.string ⟨#[97]⟩] 9)).alloc (.cells #[.int .i64 23, .int .i64 0, .int .i64 0, .int .i64 0] 37)).heap.size (((w4.alloc (.cells #[.int .i64 2] 38)).alloc (.cells #[.string ⟨#[97]⟩] 9)).alloc (.cells #[.int .i64 23, .int .i64 0, .int .i64 0, .int .i64 0] 37)) w') from
    chk (s := pgS none (some ⟨w4.heap.size, 0, none⟩) none (some ⟨w4.heap.size + 1, 0, none⟩) (some ⟨w4.heap.size + 1 + 1, 0, none⟩) 0 1 0 1 1 0 1 0 1 1) (p := pgO [] [2] [] [[97]] [(23, 0, 0, 0)]) ⟨Vw.empty _ _ _, Vw.empty _ _ _, Vw.empty _ _ _, V1.out.next aI_nx (nxB A2.out A3.out), Vw.empty _ _ _, by rw [← z1]; exact V2.out.next aS_nx A3.out, by rw [← z2]; exact V3.out⟩ (T.out.next BA.out) rfl rfl (Nat.le_of_ble_eq_true rfl) (Nat.le_of_ble_eq_true rfl) (Nat.le_of_ble_eq_true rfl) (Nat.le_of_ble_eq_true rfl) ck_e (fun _ _ _ _ => rst_all (by decide)))
  clear z1 z2 V1 V2 V3 A1 A2 A3
  go_upto_region 8 with (go_at_call 6; (with_reducible refine Calls.mono KC.out ?_); rintro e v5 ⟨rfl, b9⟩; have BN := hid (nxB BA.out b9); have BM := hid (nxB AL.out b9); clear b9)
  have TW := hid (tw2 v5 (.int .i64 0) (.int .i64 0) (.int .i64 (0)) (.int .i64 6))
  have BO := hid (nxB BM.out TW.out.2.2)
  have Fa := hid (Bx.next Fa.out BO.out)
  have Fb := hid (Bx.next Fb.out BO.out)
  have Fc := hid (Bx.next Fc.out BO.out)
  have Fd := hid (Bx.next Fd.out BO.out)
  have B5 := hid (nxB BN.out TW.out.2.2)
  have Fe := hid TW.out.2.1
  clear TW KC BA AL BN BM BO B4
  generalize World.alloc (World.alloc v5 _) _ = w5 at *
  generalize v5.heap.size + 1 = fe at *
  generalize v5.heap.size = be at *
  have z1 : (w5.alloc (.cells #[.int .i64 6] 38)).heap.size = w5.heap.size + 1 := by simp
  have z2 : ((w5.alloc (.cells #[.int .i64 6] 38)).alloc (.cells #[.int .i64 2, .int .i64 3] 38)).heap.size = w5.heap.size + 1 + 1 := by simp
  have V1 := hid (show Vw aI 1 (w5.alloc (.cells #[.int .i64 6] 38)) (some ⟨w5.heap.size, 0, none⟩) 1 [6] from vwI w5 _ [6] (by decide))
  have A1 := hid (allocB w5 (.cells #[.int .i64 6] 38))
  have V2 := hid (show Vw aI 1 ((w5.alloc (.cells #[.int .i64 6] 38)).alloc (.cells #[.int .i64 2, .int .i64 3] 38)) (some ⟨w5.heap.size + 1, 0, none⟩) 2 [2, 3] from by
    have h := vwI (w5.alloc (.cells #[.int .i64 6] 38)) 38 [2, 3] (by decide)
    rw [z1] at h
    exact h)
  have A2 := hid (allocB (w5.alloc (.cells #[.int .i64 6] 38)) (.cells #[.int .i64 2, .int .i64 3] 38))
  have V3 := hid (show Vw aN 4 (((w5.alloc (.cells #[.int .i64 6] 38)).alloc (.cells #[.int .i64 2, .int .i64 3] 38)).alloc (.cells #[.int .i64 19, .int .i64 0, .int .i64 0, .int .i64 3, .int .i64 17, .int .i64 2, .int .i64 0, .int .i64 0, .int .i64 20, .int .i64 0, .int .i64 0, .int .i64 1, .int .i64 23, .int .i64 0, .int .i64 0, .int .i64 0] 37)) (some ⟨w5.heap.size + 1 + 1, 0, none⟩) 4 [(19, 0, 0, 3), (17, 2, 0, 0), (20, 0, 0, 1), (23, 0, 0, 0)] from by
    have h := vwN ((w5.alloc (.cells #[.int .i64 6] 38)).alloc (.cells #[.int .i64 2, .int .i64 3] 38)) 37 [(19, 0, 0, 3), (17, 2, 0, 0), (20, 0, 0, 1), (23, 0, 0, 0)] (by decide) (by decide)
    rw [z2] at h
    exact h)
  have A3 := hid (allocB ((w5.alloc (.cells #[.int .i64 6] 38)).alloc (.cells #[.int .i64 2, .int .i64 3] 38)) (.cells #[.int .i64 19, .int .i64 0, .int .i64 0, .int .i64 3, .int .i64 17, .int .i64 2, .int .i64 0, .int .i64 0, .int .i64 20, .int .i64 0, .int .i64 0, .int .i64 1, .int .i64 23, .int .i64 0, .int .i64 0, .int .i64 0] 37))
  have A4 := hid (allocB (((w5.alloc (.cells #[.int .i64 6] 38)).alloc (.cells #[.int .i64 2, .int .i64 3] 38)).alloc (.cells #[.int .i64 19, .int .i64 0, .int .i64 0, .int .i64 3, .int .i64 17, .int .i64 2, .int .i64 0, .int .i64 0, .int .i64 20, .int .i64 0, .int .i64 0, .int .i64 1, .int .i64 23, .int .i64 0, .int .i64 0, .int .i64 0] 37)) (.cells #[.slice none 0 0, .slice none 0 0, .slice (some ⟨w5.heap.size, 0, none⟩) 1 1, .slice none 0 0, .slice (some ⟨w5.heap.size + 1, 0, none⟩) 2 2, .slice none 0 0, .slice (some ⟨w5.heap.size + 1 + 1, 0, none⟩) 4 4] 35))
  have AL := hid (nxB (nxB (nxB A1.out A2.out) A3.out) A4.out)
  have BA := hid (nxB B5.out AL.out)
  have X9 := hid (Bx.new (((w5.alloc (.cells #[.int .i64 6] 38)).alloc (.cells #[.int .i64 2, .int .i64 3] 38)).alloc (.cells #[.int .i64 19, .int .i64 0, .int .i64 0, .int .i64 3, .int .i64 17, .int .i64 2, .int .i64 0, .int .i64 0, .int .i64 20, .int .i64 0, .int .i64 0, .int .i64 1, .int .i64 23, .int .i64 0, .int .i64 0, .int .i64 0] 37)) #[.slice none 0 0, .slice none 0 0, .slice (some ⟨w5.heap.size, 0, none⟩) 1 1, .slice none 0 0, .slice (some ⟨w5.heap.size + 1, 0, none⟩) 2 2, .slice none 0 0, .slice (some ⟨w5.heap.size + 1 + 1, 0, none⟩) 4 4] 35 (by decide))
  have z3 : (((w5.alloc (.cells #[.int .i64 6] 38)).alloc (.cells #[.int .i64 2, .int .i64 3] 38)).alloc (.cells #[.int .i64 19, .int .i64 0, .int .i64 0, .int .i64 3, .int .i64 17, .int .i64 2, .int .i64 0, .int .i64 0, .int .i64 20, .int .i64 0, .int .i64 0, .int .i64 1, .int .i64 23, .int .i64 0, .int .i64 0, .int .i64 0] 37)).heap.size = w5.heap.size + 1 + 1 + 1 := by simp
  rw [z3] at X9
  have KC := hid (show Calls Tryd.prog 6 #[.agg #[.slice none 0 0, .slice none 0 0, .slice (some ⟨w5.heap.size, 0, none⟩) 1 1, .slice none 0 0, .slice (some ⟨w5.heap.size + 1, 0, none⟩) 2 2, .slice none 0 0, .slice (some ⟨w5.heap.size + 1 + 1, 0, none⟩) 4 4]] ((((w5.alloc (.cells #[.int .i64 6] 38)).alloc (.cells #[.int .i64 2, .int .i64 3] 38)).alloc (.cells #[.int .i64 19, .int .i64 0, .int .i64 0, .int .i64 3, .int .i64 17, .int .i64 2, .int .i64 0, .int .i64 0, .int .i64 20, .int .i64 0, .int .i64 0, .int .i64 1, .int .i64 23, .int .i64 0, .int .i64 0, .int .i64 0] 37)).alloc (.cells #[.slice none 0 0, .slice none 0 0, .slice (some ⟨w5.heap.size, 0, none⟩) 1 1, .slice none 0 0, .slice (some ⟨w5.heap.size + 1, 0, none⟩) 2 2, .slice none 0 0, .slice (some ⟨w5.heap.size + 1 + 1, 0, none⟩) 4 4] 35)) (fun e w' => e = .returned (.tuple #[.agg #[.int .i64 34, .int .i64 0], .agg #[.int .i64 (0), .int .i64 0], .bool true]) ∧ Below ((((w5.alloc (.cells #[.int .i64 6] 38)).alloc (.cells #[.int .i64 2, .int .i64 3] 38)).alloc (.cells #[.int .i64 19, .int .i64 0, .int .i64 0, .int .i64 3, .int .i64 17, .int .i64 2, .int .i64 0, .int .i64 0, .int .i64 20, .int .i64 0, .int .i64 0, .int .i64 1, .int .i64 23, .int .i64 0, .int .i64 0, .int .i64 0] 37)).alloc (.cells #[.slice none 0 0, .slice none 0 0, .slice (some ⟨w5.heap.size, 0, none⟩) 1 1, .slice none 0 0, .slice (some ⟨w5.heap.size + 1, 0, none⟩) 2 2, .slice none 0 0, .slice (some ⟨w5.heap.size + 1 + 1, 0, none⟩) 4 4] 35)).heap.size ((((w5.alloc (.cells #[.int .i64 6] 38)).alloc (.cells #[.int .i64 2, .int .i64 3] 38)).alloc (.cells #[.int .i64 19, .int .i64 0, .int .i64 0, .int .i64 3, .int .i64 17, .int .i64 2, .int .i64 0, .int .i64 0, .int .i64 20, .int .i64 0, .int .i64 0, .int .i64 1, .int .i64 23, .int .i64 0, .int .i64 0, .int .i64 0] 37)).alloc (.cells #[.slice none 0 0, .slice none 0 0, .slice (some ⟨w5.heap.size, 0, none⟩) 1 1, .slice none 0 0, .slice (some ⟨w5.heap.size + 1, 0, none⟩) 2 2, .slice none 0 0, .slice (some ⟨w5.heap.size + 1 + 1, 0, none⟩) 4 4] 35)) w') from
    chk (s := pgS (some ⟨w5.heap.size, 0, none⟩) none (some ⟨w5.heap.size + 1, 0, none⟩) none (some ⟨w5.heap.size + 1 + 1, 0, none⟩) 1 0 2 0 4 1 0 2 0 4) (p := pgO [6] [] [2, 3] [] [(19, 0, 0, 3), (17, 2, 0, 0), (20, 0, 0, 1), (23, 0, 0, 0)]) ⟨Vw.empty _ _ _, Vw.empty _ _ _, V1.out.next aI_nx (nxB (nxB A2.out A3.out) A4.out), Vw.empty _ _ _, V2.out.next aI_nx (nxB A3.out A4.out), Vw.empty _ _ _, V3.out.next aN_nx A4.out⟩ (T.out.next BA.out) rfl rfl (Nat.le_of_ble_eq_true rfl) (Nat.le_of_ble_eq_true rfl) (Nat.le_of_ble_eq_true rfl) (Nat.le_of_ble_eq_true rfl) ck_l (fun _ _ _ _ => rst_all (by decide)))
  clear z1 z2 z3 V1 V2 V3 A1 A2 A3 A4
  go_upto_region 9 with fail
  generalize World.alloc (World.alloc (World.alloc (World.alloc w5 _) _) _) _ = w6 at *
  generalize w5.heap.size + 1 + 1 + 1 = pb at *
  obtain ⟨n1, hn1⟩ : ∃ n1, n1 = w5.heap.size := ⟨_, rfl⟩
  have x0 := X9.out.cell 0 _ rfl
  have x1 := X9.out.cell 1 _ rfl
  have x2 := X9.out.cell 2 _ rfl
  have x3 := X9.out.cell 3 _ rfl
  have x4 := X9.out.cell 4 _ rfl
  have x5 := X9.out.cell 5 _ rfl
  have x6 := X9.out.cell 6 _ rfl
  go_upto_region 10 with (go_at_call 6; (with_reducible refine Calls.mono KC.out ?_); rintro e v6 ⟨rfl, b9⟩; have BN := hid (nxB BA.out b9); have BM := hid (nxB AL.out b9); clear b9)
  clear x0 x1 x2 x3 x4 x5 x6
  have TW := hid (tw2 v6 (.int .i64 34) (.int .i64 0) (.int .i64 (0)) (.int .i64 0))
  have BO := hid (nxB BM.out TW.out.2.2)
  have Fa := hid (Bx.next Fa.out BO.out)
  have Fb := hid (Bx.next Fb.out BO.out)
  have Fc := hid (Bx.next Fc.out BO.out)
  have Fd := hid (Bx.next Fd.out BO.out)
  have Fe := hid (Bx.next Fe.out BO.out)
  have B6 := hid (nxB BN.out TW.out.2.2)
  obtain ⟨g0, g1⟩ := Bx.q2 TW.out.1
  obtain ⟨g2, g3⟩ := Bx.q2 TW.out.2.1
  obtain ⟨ua, va⟩ := Bx.q2 Fa.out
  obtain ⟨ub, vb⟩ := Bx.q2 Fb.out
  obtain ⟨uc, vc⟩ := Bx.q2 Fc.out
  obtain ⟨ud, vd⟩ := Bx.q2 Fd.out
  obtain ⟨ue, ve⟩ := Bx.q2 Fe.out
  generalize World.alloc (World.alloc v6 _) _ = w7 at *
  generalize v6.heap.size + 1 = fl at *
  generalize v6.heap.size = bl at *
  go_wp2_with fail
  go_ret
  exact ⟨rfl, B6.out⟩

end Go.Proofs.YtjkbiglnpoeddaaDoor.Vf
