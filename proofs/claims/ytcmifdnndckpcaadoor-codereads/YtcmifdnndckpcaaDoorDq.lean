/- The walk over code's Show. -/
import Derived.Test.YtcmifdnndckpcaaDoorDp
import Derived.Deep.DeepCutAuto
namespace Go.Proofs.YtcmifdnndckpcaaDoor
open Go.Shelf Go.RowKit
set_option linter.unusedVariables false
set_option linter.unusedSimpArgs false

set_option maxRecDepth 100000 in
set_option maxHeartbeats 8000000 in
theorem code_Show_any (op a b c : Int) (w : World) (ht : RT w) (hp : Pt w) (h0 : cI.ok a) (h1 : cI.ok b) (h2 : cI.ok c) :
    Calls Tryd.prog 10 #[.agg #[.int .i64 op, .int .i64 a, .int .i64 b, .int .i64 c]] w fun e w' => e = .returned (.string (shP op a b c)) ∧ Below w.heap.size w w' := by
  have Ha := hid h0
  have Hb := hid h1
  have Hc := hid h2
  have X1 := hid (Bx.new w #[.int .i64 op, .int .i64 a, .int .i64 b, .int .i64 c] 36 (by decide))
  have B1 := hid (allocB w (.cells #[.int .i64 op, .int .i64 a, .int .i64 b, .int .i64 c] 36))
  have T1 := hid (hp.next B1.out)
  have KR := hid (rowOf_any op _ (ht.next B1.out))
  clear h0 h1 h2 ht hp
  rcases opK_cases op with h | h | h
  · have SH := hid (show shP op a b c = opN op from by unfold shP; rw [h]; rfl)
    rw [h] at KR
    rw [SH.out]
    clear SH h
    have zn := opN_size op
    generalize opN op = nm at *
    go_enter Tryd.func10, Tryd.ntmps10
    go_upto_region 1 with fail
    obtain ⟨x, hx⟩ : ∃ x, x = w.heap.size := ⟨_, rfl⟩
    rw [← hx] at X1 ⊢
    clear hx
    generalize World.alloc w _ = w1 at *
    have c0 := X1.out.cell 0 _ rfl
    go_upto_region 2 with (go_at_call 22; (with_reducible refine Calls.mono KR.out ?_); rintro e w2 ⟨rfl, b2⟩; have B2 := hid b2; have X2 := hid (X1.out.next b2); have T2 := hid (T1.out.next b2); clear b2)
    have X3 := hid (X2.out.next (allocB w2 (.cells #[.string nm, .int .i64 0] 52)))
    have Y3 := hid (Bx.new w2 #[.string nm, .int .i64 0] 52 (by decide))
    have B3 := hid (nextB B1.out (nextB B2.out (allocB w2 (.cells #[.string nm, .int .i64 0] 52))))
    have T3 := hid (T2.out.next (allocB w2 (.cells #[.string nm, .int .i64 0] 52)))
    clear c0 X1 X2 T1 T2 B2 B1 KR
    generalize World.alloc w2 _ = w3 at *
    generalize w2.heap.size = y at *
    have c1 := X3.out.cell 1 _ rfl
    have c2 := X3.out.cell 2 _ rfl
    have c3 := X3.out.cell 3 _ rfl
    have Y4 := hid (Y3.out.next (allocB w3 (.cells #[.int .i64 a, .int .i64 b, .int .i64 c] 54)))
    have Z4 := hid (Bx.new w3 #[.int .i64 a, .int .i64 b, .int .i64 c] 54 (by decide))
    have B4 := hid (nextB B3.out (allocB w3 (.cells #[.int .i64 a, .int .i64 b, .int .i64 c] 54)))
    have T4 := hid (T3.out.next (allocB w3 (.cells #[.int .i64 a, .int .i64 b, .int .i64 c] 54)))
    go_upto_region 3 with fail
    clear c1 c2 c3 X3 Y3 B3 T3
    generalize World.alloc w3 _ = w4 at *
    generalize w3.heap.size = z at *
    have d0 := Y4.out.cell 0 _ rfl
    have d1 := Y4.out.cell 1 _ rfl
    go_wp2_with fail
    clear d0 d1
    refine wp_loop_rounds 1 ?_
    rw [rounds_succ]
    go_wp2_with fail
    go_ret
    exact ⟨rfl, B4.out⟩
  · have SH := hid (show shP op a b c = opN op ++ (⟨#[32]⟩ ++ itS a) from by unfold shP; rw [h]; rfl)
    rw [h] at KR
    rw [SH.out]
    clear SH h
    have zn := opN_size op
    generalize opN op = nm at *
    have za := itS_size Ha.out
    obtain ⟨sa, hsa⟩ : ∃ s, s = itS a := ⟨_, rfl⟩
    rw [← hsa] at za ⊢
    have HSa := hid hsa
    clear hsa
    go_enter Tryd.func10, Tryd.ntmps10
    go_upto_region 1 with fail
    obtain ⟨x, hx⟩ : ∃ x, x = w.heap.size := ⟨_, rfl⟩
    rw [← hx] at X1 ⊢
    clear hx
    generalize World.alloc w _ = w1 at *
    have c0 := X1.out.cell 0 _ rfl
    go_upto_region 2 with (go_at_call 22; (with_reducible refine Calls.mono KR.out ?_); rintro e w2 ⟨rfl, b2⟩; have B2 := hid b2; have X2 := hid (X1.out.next b2); have T2 := hid (T1.out.next b2); clear b2)
    have X3 := hid (X2.out.next (allocB w2 (.cells #[.string nm, .int .i64 1] 52)))
    have Y3 := hid (Bx.new w2 #[.string nm, .int .i64 1] 52 (by decide))
    have B3 := hid (nextB B1.out (nextB B2.out (allocB w2 (.cells #[.string nm, .int .i64 1] 52))))
    have T3 := hid (T2.out.next (allocB w2 (.cells #[.string nm, .int .i64 1] 52)))
    clear c0 X1 X2 T1 T2 B2 B1 KR
    generalize World.alloc w2 _ = w3 at *
    generalize w2.heap.size = y at *
    have c1 := X3.out.cell 1 _ rfl
    have c2 := X3.out.cell 2 _ rfl
    have c3 := X3.out.cell 3 _ rfl
    have Y4 := hid (Y3.out.next (allocB w3 (.cells #[.int .i64 a, .int .i64 b, .int .i64 c] 54)))
    have Z4 := hid (Bx.new w3 #[.int .i64 a, .int .i64 b, .int .i64 c] 54 (by decide))
    have B4 := hid (nextB B3.out (allocB w3 (.cells #[.int .i64 a, .int .i64 b, .int .i64 c] 54)))
    have T4 := hid (T3.out.next (allocB w3 (.cells #[.int .i64 a, .int .i64 b, .int .i64 c] 54)))
    go_upto_region 3 with fail
    clear c1 c2 c3 X3 Y3 B3 T3
    generalize World.alloc w3 _ = w4 at *
    generalize w3.heap.size = z at *
    have d0 := Y4.out.cell 0 _ rfl
    have d1 := Y4.out.cell 1 _ rfl
    go_wp2_with fail
    clear d0 d1
    refine wp_loop_rounds 2 ?_
    rw [rounds_succ]
    have q0 := Z4.out.cell 0 _ rfl
    have KI := hid (itoa_any a w4 Ha.out T4.out)
    rw [← HSa.out] at KI
    go_wp2_with (go_at_call 23; (with_reducible refine Calls.mono KI.out ?_); rintro e w5 ⟨rfl, b5⟩; have B5 := hid (nextB B4.out b5); have Z5 := hid (Z4.out.next b5); have T5 := hid (T4.out.next b5); clear b5 KI q0)
    rw [rounds_succ]
    go_wp2_with fail
    go_ret
    exact ⟨rfl, B5.out⟩
  · have SH := hid (show shP op a b c = opN op ++ (⟨#[32]⟩ ++ itS a) ++ (⟨#[32]⟩ ++ itS b) ++ (⟨#[32]⟩ ++ itS c) from by unfold shP; rw [h]; rfl)
    rw [h] at KR
    rw [SH.out]
    clear SH h
    have zn := opN_size op
    generalize opN op = nm at *
    have za := itS_size Ha.out
    have zb := itS_size Hb.out
    have zc := itS_size Hc.out
    obtain ⟨sa, hsa⟩ : ∃ s, s = itS a := ⟨_, rfl⟩
    rw [← hsa] at za ⊢
    have HSa := hid hsa
    clear hsa
    obtain ⟨sb, hsb⟩ : ∃ s, s = itS b := ⟨_, rfl⟩
    rw [← hsb] at zb ⊢
    have HSb := hid hsb
    clear hsb
    obtain ⟨sc, hsc⟩ : ∃ s, s = itS c := ⟨_, rfl⟩
    rw [← hsc] at zc ⊢
    have HSc := hid hsc
    clear hsc
    go_enter Tryd.func10, Tryd.ntmps10
    go_upto_region 1 with fail
    obtain ⟨x, hx⟩ : ∃ x, x = w.heap.size := ⟨_, rfl⟩
    rw [← hx] at X1 ⊢
    clear hx
    generalize World.alloc w _ = w1 at *
    have c0 := X1.out.cell 0 _ rfl
    go_upto_region 2 with (go_at_call 22; (with_reducible refine Calls.mono KR.out ?_); rintro e w2 ⟨rfl, b2⟩; have B2 := hid b2; have X2 := hid (X1.out.next b2); have T2 := hid (T1.out.next b2); clear b2)
    have X3 := hid (X2.out.next (allocB w2 (.cells #[.string nm, .int .i64 3] 52)))
    have Y3 := hid (Bx.new w2 #[.string nm, .int .i64 3] 52 (by decide))
    have B3 := hid (nextB B1.out (nextB B2.out (allocB w2 (.cells #[.string nm, .int .i64 3] 52))))
    have T3 := hid (T2.out.next (allocB w2 (.cells #[.string nm, .int .i64 3] 52)))
    clear c0 X1 X2 T1 T2 B2 B1 KR
    generalize World.alloc w2 _ = w3 at *
    generalize w2.heap.size = y at *
    have c1 := X3.out.cell 1 _ rfl
    have c2 := X3.out.cell 2 _ rfl
    have c3 := X3.out.cell 3 _ rfl
    have Y4 := hid (Y3.out.next (allocB w3 (.cells #[.int .i64 a, .int .i64 b, .int .i64 c] 54)))
    have Z4 := hid (Bx.new w3 #[.int .i64 a, .int .i64 b, .int .i64 c] 54 (by decide))
    have B4 := hid (nextB B3.out (allocB w3 (.cells #[.int .i64 a, .int .i64 b, .int .i64 c] 54)))
    have T4 := hid (T3.out.next (allocB w3 (.cells #[.int .i64 a, .int .i64 b, .int .i64 c] 54)))
    go_upto_region 3 with fail
    clear c1 c2 c3 X3 Y3 B3 T3
    generalize World.alloc w3 _ = w4 at *
    generalize w3.heap.size = z at *
    have d0 := Y4.out.cell 0 _ rfl
    have d1 := Y4.out.cell 1 _ rfl
    go_wp2_with fail
    clear d0 d1
    refine wp_loop_rounds 4 ?_
    rw [rounds_succ]
    have q0 := Z4.out.cell 0 _ rfl
    have KI := hid (itoa_any a w4 Ha.out T4.out)
    rw [← HSa.out] at KI
    go_wp2_with (go_at_call 23; (with_reducible refine Calls.mono KI.out ?_); rintro e w5 ⟨rfl, b5⟩; have B5 := hid (nextB B4.out b5); have Z5 := hid (Z4.out.next b5); have T5 := hid (T4.out.next b5); clear b5 KI q0)
    rw [rounds_succ]
    have q1 := Z5.out.cell 1 _ rfl
    have KI := hid (itoa_any b w5 Hb.out T5.out)
    rw [← HSb.out] at KI
    go_wp2_with (go_at_call 23; (with_reducible refine Calls.mono KI.out ?_); rintro e w6 ⟨rfl, b6⟩; have B6 := hid (nextB B5.out b6); have Z6 := hid (Z5.out.next b6); have T6 := hid (T5.out.next b6); clear b6 KI q1)
    rw [rounds_succ]
    have q2 := Z6.out.cell 2 _ rfl
    have KI := hid (itoa_any c w6 Hc.out T6.out)
    rw [← HSc.out] at KI
    go_wp2_with (go_at_call 23; (with_reducible refine Calls.mono KI.out ?_); rintro e w7 ⟨rfl, b7⟩; have B7 := hid (nextB B6.out b7); have Z7 := hid (Z6.out.next b7); have T7 := hid (T6.out.next b7); clear b7 KI q2)
    rw [rounds_succ]
    go_wp2_with fail
    go_ret
    exact ⟨rfl, B7.out⟩

end Go.Proofs.YtcmifdnndckpcaaDoor
