/- The walks over publicanref14's Name and Show. -/
import Derived.Test.YtmfbebocglhbdaaDoorEa
import Derived.Test.YtmfbebocglhbdaaDoorDq
import Derived.Test.YtmfbebocglhbdaaDoorDk
namespace Go.Proofs.YtmfbebocglhbdaaDoor
open Go.RowKit
set_option linter.unusedVariables false
set_option linter.unusedSimpArgs false

theorem ba_assoc (a b c : ByteArray) : a ++ b ++ c = a ++ (b ++ c) := by
  apply ByteArray.ext
  simp [Array.append_assoc]
/-- The reference's own rows. -/
structure RwR (w w' : World) (e : Ending) : Prop where
  ex : ∃ a b, e = .returned (.tuple #[.slice (some ⟨a, 0, none⟩) 24 24, .slice (some ⟨b, 0, none⟩) 24 24]) ∧ (∀ i, i < 24 → w'.cell? ⟨a, i, none⟩ = some (.string (nmL.getD i ⟨#[]⟩))) ∧ (∀ i, i < 24 → w'.cell? ⟨b, i, none⟩ = some (.int .i64 ((noL.getD i 0 : Nat) : Int)))
  bl : Below w.heap.size w w'
set_option maxRecDepth 100000 in
set_option maxHeartbeats 8000000 in
theorem ref14_rows_any (w : World) : Calls Tryd.prog 41 #[] w fun e w' => RwR w w' e := by
  have b1 := allocB w (.cells #[.string ⟨#[99, 111, 110, 115, 116]⟩, .string ⟨#[105, 110]⟩, .string ⟨#[108, 111, 97, 100]⟩, .string ⟨#[115, 116, 111, 114, 101]⟩, .string ⟨#[97, 100, 100]⟩, .string ⟨#[115, 117, 98]⟩, .string ⟨#[109, 117, 108]⟩, .string ⟨#[100, 105, 118]⟩, .string ⟨#[110, 101, 103]⟩, .string ⟨#[110, 111, 116]⟩, .string ⟨#[108, 116]⟩, .string ⟨#[108, 101]⟩, .string ⟨#[101, 113]⟩, .string ⟨#[109, 105, 110]⟩, .string ⟨#[109, 97, 120]⟩, .string ⟨#[108, 101, 110]⟩, .string ⟨#[97, 116]⟩, .string ⟨#[106, 117, 109, 112]⟩, .string ⟨#[117, 110, 108, 101, 115, 115]⟩, .string ⟨#[102, 105, 114, 115, 116]⟩, .string ⟨#[110, 101, 120, 116]⟩, .string ⟨#[109, 97, 114, 107]⟩, .string ⟨#[111, 117, 116]⟩, .string ⟨#[104, 97, 108, 116]⟩] 9)
  have b2 := allocB (w.alloc (.cells #[.string ⟨#[99, 111, 110, 115, 116]⟩, .string ⟨#[105, 110]⟩, .string ⟨#[108, 111, 97, 100]⟩, .string ⟨#[115, 116, 111, 114, 101]⟩, .string ⟨#[97, 100, 100]⟩, .string ⟨#[115, 117, 98]⟩, .string ⟨#[109, 117, 108]⟩, .string ⟨#[100, 105, 118]⟩, .string ⟨#[110, 101, 103]⟩, .string ⟨#[110, 111, 116]⟩, .string ⟨#[108, 116]⟩, .string ⟨#[108, 101]⟩, .string ⟨#[101, 113]⟩, .string ⟨#[109, 105, 110]⟩, .string ⟨#[109, 97, 120]⟩, .string ⟨#[108, 101, 110]⟩, .string ⟨#[97, 116]⟩, .string ⟨#[106, 117, 109, 112]⟩, .string ⟨#[117, 110, 108, 101, 115, 115]⟩, .string ⟨#[102, 105, 114, 115, 116]⟩, .string ⟨#[110, 101, 120, 116]⟩, .string ⟨#[109, 97, 114, 107]⟩, .string ⟨#[111, 117, 116]⟩, .string ⟨#[104, 97, 108, 116]⟩] 9)) (.cells #[.int .i64 1, .int .i64 1, .int .i64 1, .int .i64 1, .int .i64 1, .int .i64 1, .int .i64 1, .int .i64 1, .int .i64 1, .int .i64 0, .int .i64 1, .int .i64 1, .int .i64 1, .int .i64 1, .int .i64 1, .int .i64 1, .int .i64 1, .int .i64 1, .int .i64 1, .int .i64 3, .int .i64 3, .int .i64 1, .int .i64 1, .int .i64 0] 3)
  have c1 := cells_new w [.string ⟨#[99, 111, 110, 115, 116]⟩, .string ⟨#[105, 110]⟩, .string ⟨#[108, 111, 97, 100]⟩, .string ⟨#[115, 116, 111, 114, 101]⟩, .string ⟨#[97, 100, 100]⟩, .string ⟨#[115, 117, 98]⟩, .string ⟨#[109, 117, 108]⟩, .string ⟨#[100, 105, 118]⟩, .string ⟨#[110, 101, 103]⟩, .string ⟨#[110, 111, 116]⟩, .string ⟨#[108, 116]⟩, .string ⟨#[108, 101]⟩, .string ⟨#[101, 113]⟩, .string ⟨#[109, 105, 110]⟩, .string ⟨#[109, 97, 120]⟩, .string ⟨#[108, 101, 110]⟩, .string ⟨#[97, 116]⟩, .string ⟨#[106, 117, 109, 112]⟩, .string ⟨#[117, 110, 108, 101, 115, 115]⟩, .string ⟨#[102, 105, 114, 115, 116]⟩, .string ⟨#[110, 101, 120, 116]⟩, .string ⟨#[109, 97, 114, 107]⟩, .string ⟨#[111, 117, 116]⟩, .string ⟨#[104, 97, 108, 116]⟩] 9
  have c2 := cells_new (w.alloc (.cells #[.string ⟨#[99, 111, 110, 115, 116]⟩, .string ⟨#[105, 110]⟩, .string ⟨#[108, 111, 97, 100]⟩, .string ⟨#[115, 116, 111, 114, 101]⟩, .string ⟨#[97, 100, 100]⟩, .string ⟨#[115, 117, 98]⟩, .string ⟨#[109, 117, 108]⟩, .string ⟨#[100, 105, 118]⟩, .string ⟨#[110, 101, 103]⟩, .string ⟨#[110, 111, 116]⟩, .string ⟨#[108, 116]⟩, .string ⟨#[108, 101]⟩, .string ⟨#[101, 113]⟩, .string ⟨#[109, 105, 110]⟩, .string ⟨#[109, 97, 120]⟩, .string ⟨#[108, 101, 110]⟩, .string ⟨#[97, 116]⟩, .string ⟨#[106, 117, 109, 112]⟩, .string ⟨#[117, 110, 108, 101, 115, 115]⟩, .string ⟨#[102, 105, 114, 115, 116]⟩, .string ⟨#[110, 101, 120, 116]⟩, .string ⟨#[109, 97, 114, 107]⟩, .string ⟨#[111, 117, 116]⟩, .string ⟨#[104, 97, 108, 116]⟩] 9)) [.int .i64 1, .int .i64 1, .int .i64 1, .int .i64 1, .int .i64 1, .int .i64 1, .int .i64 1, .int .i64 1, .int .i64 1, .int .i64 0, .int .i64 1, .int .i64 1, .int .i64 1, .int .i64 1, .int .i64 1, .int .i64 1, .int .i64 1, .int .i64 1, .int .i64 1, .int .i64 3, .int .i64 3, .int .i64 1, .int .i64 1, .int .i64 0] 3
  have s1 : (w.alloc (.cells #[.string ⟨#[99, 111, 110, 115, 116]⟩, .string ⟨#[105, 110]⟩, .string ⟨#[108, 111, 97, 100]⟩, .string ⟨#[115, 116, 111, 114, 101]⟩, .string ⟨#[97, 100, 100]⟩, .string ⟨#[115, 117, 98]⟩, .string ⟨#[109, 117, 108]⟩, .string ⟨#[100, 105, 118]⟩, .string ⟨#[110, 101, 103]⟩, .string ⟨#[110, 111, 116]⟩, .string ⟨#[108, 116]⟩, .string ⟨#[108, 101]⟩, .string ⟨#[101, 113]⟩, .string ⟨#[109, 105, 110]⟩, .string ⟨#[109, 97, 120]⟩, .string ⟨#[108, 101, 110]⟩, .string ⟨#[97, 116]⟩, .string ⟨#[106, 117, 109, 112]⟩, .string ⟨#[117, 110, 108, 101, 115, 115]⟩, .string ⟨#[102, 105, 114, 115, 116]⟩, .string ⟨#[110, 101, 120, 116]⟩, .string ⟨#[109, 97, 114, 107]⟩, .string ⟨#[111, 117, 116]⟩, .string ⟨#[104, 97, 108, 116]⟩] 9)).heap.size = w.heap.size + 1 := by simp
  rw [s1] at c2
  have F := hid (show RwR w ((w.alloc (.cells #[.string ⟨#[99, 111, 110, 115, 116]⟩, .string ⟨#[105, 110]⟩, .string ⟨#[108, 111, 97, 100]⟩, .string ⟨#[115, 116, 111, 114, 101]⟩, .string ⟨#[97, 100, 100]⟩, .string ⟨#[115, 117, 98]⟩, .string ⟨#[109, 117, 108]⟩, .string ⟨#[100, 105, 118]⟩, .string ⟨#[110, 101, 103]⟩, .string ⟨#[110, 111, 116]⟩, .string ⟨#[108, 116]⟩, .string ⟨#[108, 101]⟩, .string ⟨#[101, 113]⟩, .string ⟨#[109, 105, 110]⟩, .string ⟨#[109, 97, 120]⟩, .string ⟨#[108, 101, 110]⟩, .string ⟨#[97, 116]⟩, .string ⟨#[106, 117, 109, 112]⟩, .string ⟨#[117, 110, 108, 101, 115, 115]⟩, .string ⟨#[102, 105, 114, 115, 116]⟩, .string ⟨#[110, 101, 120, 116]⟩, .string ⟨#[109, 97, 114, 107]⟩, .string ⟨#[111, 117, 116]⟩, .string ⟨#[104, 97, 108, 116]⟩] 9)).alloc (.cells #[.int .i64 1, .int .i64 1, .int .i64 1, .int .i64 1, .int .i64 1, .int .i64 1, .int .i64 1, .int .i64 1, .int .i64 1, .int .i64 0, .int .i64 1, .int .i64 1, .int .i64 1, .int .i64 1, .int .i64 1, .int .i64 1, .int .i64 1, .int .i64 1, .int .i64 1, .int .i64 3, .int .i64 3, .int .i64 1, .int .i64 1, .int .i64 0] 3)) (.returned (.tuple #[.slice (some ⟨w.heap.size, 0, none⟩) 24 24, .slice (some ⟨w.heap.size + 1, 0, none⟩) 24 24])) from
    ⟨⟨_, _, rfl, fun i hi => celB b2 (c1 i _ (by
      match i, hi with
      | 0, _ => rfl
      | 1, _ => rfl
      | 2, _ => rfl
      | 3, _ => rfl
      | 4, _ => rfl
      | 5, _ => rfl
      | 6, _ => rfl
      | 7, _ => rfl
      | 8, _ => rfl
      | 9, _ => rfl
      | 10, _ => rfl
      | 11, _ => rfl
      | 12, _ => rfl
      | 13, _ => rfl
      | 14, _ => rfl
      | 15, _ => rfl
      | 16, _ => rfl
      | 17, _ => rfl
      | 18, _ => rfl
      | 19, _ => rfl
      | 20, _ => rfl
      | 21, _ => rfl
      | 22, _ => rfl
      | 23, _ => rfl
      | i + 24, hi => omega)), fun i hi => c2 i _ (by
      match i, hi with
      | 0, _ => rfl
      | 1, _ => rfl
      | 2, _ => rfl
      | 3, _ => rfl
      | 4, _ => rfl
      | 5, _ => rfl
      | 6, _ => rfl
      | 7, _ => rfl
      | 8, _ => rfl
      | 9, _ => rfl
      | 10, _ => rfl
      | 11, _ => rfl
      | 12, _ => rfl
      | 13, _ => rfl
      | 14, _ => rfl
      | 15, _ => rfl
      | 16, _ => rfl
      | 17, _ => rfl
      | 18, _ => rfl
      | 19, _ => rfl
      | 20, _ => rfl
      | 21, _ => rfl
      | 22, _ => rfl
      | 23, _ => rfl
      | i + 24, hi => omega)⟩, nextB b1 b2⟩)
  clear b1 b2 c1 c2 s1
  go_enter Tryd.func41, Tryd.ntmps41
  go_wp2_with fail
  go_returns
  exact F.out
set_option maxRecDepth 100000 in
set_option maxHeartbeats 8000000 in
theorem ref14_Name_any (op : Int) (w : World) : Calls Tryd.prog 15 #[.int .i64 op] w fun e w' => e = .returned (.string (opN op)) ∧ Below w.heap.size w w' := by
  have K := hid (ref14_rows_any w)
  by_cases q : 0 ≤ op ∧ op < 24
  · have e1 : opN op = nmL.getD op.toNat ⟨#[]⟩ := by unfold opN; rw [if_pos q]
    rw [e1]
    obtain ⟨i, rfl⟩ : ∃ i : Nat, op = i := ⟨op.toNat, by omega⟩
    have hi : i < 24 := by omega
    simp only [Int.toNat_natCast]
    have i1 : ¬ ((i : Int) < 0) := by omega
    have i2 : ¬ ((24 : Int) ≤ (i : Int)) := by omega
    clear q e1
    go_enter Tryd.func15, Tryd.ntmps15
    go_wp2_with fail
    (with_reducible refine Calls.mono K.out ?_)
    rintro e w1 h1
    obtain ⟨a, b, rfl, c1, -⟩ := h1.ex
    have t0 := c1 i hi
    have B1 := hid h1.bl
    clear h1 c1 K
    obtain ⟨nm, hnm⟩ : ∃ nm, nm = nmL.getD i ⟨#[]⟩ := ⟨_, rfl⟩
    rw [← hnm] at t0
    have HN := hid hnm
    clear hnm
    go_wp2_with fail
    go_ret
    exact ⟨by rw [← HN.out]; rfl, B1.out⟩
  · have e1 : opN op = ⟨#[]⟩ := by unfold opN; rw [if_neg q]
    rw [e1]
    go_enter Tryd.func15, Tryd.ntmps15
    go_wp2_with fail
    (with_reducible refine Calls.mono K.out ?_)
    rintro e w1 h1
    obtain ⟨a, b, rfl, -, -⟩ := h1.ex
    have B1 := hid h1.bl
    clear h1 K
    by_cases q1 : op < 0
    · go_wp2_with fail
      go_ret
      exact ⟨rfl, B1.out⟩
    · have q2 : 24 ≤ op := by omega
      go_wp2_with fail
      go_ret
      exact ⟨rfl, B1.out⟩
theorem opN_in {op : Int} (h : 0 ≤ op ∧ op < 24) : (opN op).toList.isEmpty = false ∧ opK op = noL.getD op.toNat 0 := by
  obtain ⟨i, rfl⟩ : ∃ i : Nat, op = i := ⟨op.toNat, by omega⟩
  unfold opN opK
  rw [if_pos h, if_pos h]
  refine ⟨?_, rfl⟩
  have key : ∀ i : Fin 24, (nmL.getD i.val ⟨#[]⟩).toList.isEmpty = false := by decide +kernel
  exact key ⟨i, by omega⟩
set_option maxRecDepth 100000 in
set_option maxHeartbeats 8000000 in
theorem ref14_Show_any (op a b c : Int) (w : World) (h0 : cI.ok a) (h1 : cI.ok b) (h2 : cI.ok c) :
    Calls Tryd.prog 16 #[.agg #[.int .i64 op, .int .i64 a, .int .i64 b, .int .i64 c]] w fun e w' => e = .returned (.string (shP op a b c)) ∧ Below w.heap.size w w' := by
  have Ha := hid h0
  have Hb := hid h1
  have Hc := hid h2
  have X1 := hid (Bx.new w #[.int .i64 op, .int .i64 a, .int .i64 b, .int .i64 c] 36 (by decide))
  have B1 := hid (allocB w (.cells #[.int .i64 op, .int .i64 a, .int .i64 b, .int .i64 c] 36))
  have KR := hid (ref14_Name_any op (w.alloc (.cells #[.int .i64 op, .int .i64 a, .int .i64 b, .int .i64 c] 36)))
  clear h0 h1 h2
  by_cases q : 0 ≤ op ∧ op < 24
  · have KO := hid (opN_in q).2.symm
    rcases opK_cases op with h | h | h
    · have SH := hid (show shP op a b c = opN op from by unfold shP; rw [h]; rfl)
      rw [h] at KO
      rw [SH.out]
      clear SH h
      have zn := opN_size op
      have ne := (opN_in q).1
      generalize opN op = nm at *
      obtain ⟨i, rfl⟩ : ∃ i : Nat, op = i := ⟨op.toNat, by omega⟩
      have hi : i < 24 := by omega
      simp only [Int.toNat_natCast] at KO
      have IH := hid hi
      clear q
      go_enter Tryd.func16, Tryd.ntmps16
      go_upto_region 1 with fail
      obtain ⟨x, hx⟩ : ∃ x, x = w.heap.size := ⟨_, rfl⟩
      rw [← hx] at X1 ⊢
      clear hx
      generalize World.alloc w _ = w1 at *
      have c0 := X1.out.cell 0 _ rfl
      go_upto_region 2 with (go_at_call 15; (with_reducible refine Calls.mono KR.out ?_); rintro e w2 ⟨rfl, b2⟩; have B2 := hid (nextB B1.out b2); have X2 := hid (X1.out.next b2); clear b2)
      clear c0 X1 B1 KR
      have KW := hid (ref14_rows_any w2)
      go_wp2_with fail
      (with_reducible refine Calls.mono KW.out ?_)
      rintro e w3 h3
      obtain ⟨ra, rb, rfl, -, cr⟩ := h3.ex
      have B3 := hid (nextB B2.out h3.bl)
      have X3 := hid (X2.out.next h3.bl)
      have N3 := hid (show w3.cell? ⟨rb, i, none⟩ = some (.int .i64 0) from by have := cr i IH.out; rw [KO.out] at this; exact this)
      clear h3 cr KW B2 X2
      have d1 := X3.out.cell 1 _ rfl
      have d2 := X3.out.cell 2 _ rfl
      have d3 := X3.out.cell 3 _ rfl
      have L4 := hid (Bx.new w3 #[.int .i64 a, .int .i64 b, .int .i64 c] 3 (by decide))
      have A4 := hid (allocB w3 (.cells #[.int .i64 a, .int .i64 b, .int .i64 c] 3))
      have B4 := hid (nextB B3.out A4.out)
      have X4 := hid (X3.out.next A4.out)
      have N4 := hid (celB A4.out N3.out)
      go_upto_region 6 with fail
      clear d1 d2 d3 X3 B3 N3 A4
      generalize World.alloc w3 _ = w4 at *
      generalize w3.heap.size = lb at *
      go_wp2_with fail
      refine wp_loop_rounds 1 ?_
      rw [rounds_succ]
      have e0 := X4.out.cell 0 _ rfl
      have n0 := N4.out
      go_wp2_with fail
      go_ret
      exact ⟨rfl, B4.out⟩
    · have SH := hid (show shP op a b c = opN op ++ ⟨#[32]⟩ ++ itS a from by unfold shP; rw [h]; simp [ba_assoc])
      rw [h] at KO
      rw [SH.out]
      clear SH h
      have zn := opN_size op
      have ne := (opN_in q).1
      generalize opN op = nm at *
      have za := itS_size Ha.out
      obtain ⟨sa, hsa⟩ : ∃ s, s = itS a := ⟨_, rfl⟩
      rw [← hsa] at za ⊢
      have HSa := hid hsa
      clear hsa
      obtain ⟨i, rfl⟩ : ∃ i : Nat, op = i := ⟨op.toNat, by omega⟩
      have hi : i < 24 := by omega
      simp only [Int.toNat_natCast] at KO
      have IH := hid hi
      clear q
      go_enter Tryd.func16, Tryd.ntmps16
      go_upto_region 1 with fail
      obtain ⟨x, hx⟩ : ∃ x, x = w.heap.size := ⟨_, rfl⟩
      rw [← hx] at X1 ⊢
      clear hx
      generalize World.alloc w _ = w1 at *
      have c0 := X1.out.cell 0 _ rfl
      go_upto_region 2 with (go_at_call 15; (with_reducible refine Calls.mono KR.out ?_); rintro e w2 ⟨rfl, b2⟩; have B2 := hid (nextB B1.out b2); have X2 := hid (X1.out.next b2); clear b2)
      clear c0 X1 B1 KR
      have KW := hid (ref14_rows_any w2)
      go_wp2_with fail
      (with_reducible refine Calls.mono KW.out ?_)
      rintro e w3 h3
      obtain ⟨ra, rb, rfl, -, cr⟩ := h3.ex
      have B3 := hid (nextB B2.out h3.bl)
      have X3 := hid (X2.out.next h3.bl)
      have N3 := hid (show w3.cell? ⟨rb, i, none⟩ = some (.int .i64 1) from by have := cr i IH.out; rw [KO.out] at this; exact this)
      clear h3 cr KW B2 X2
      have d1 := X3.out.cell 1 _ rfl
      have d2 := X3.out.cell 2 _ rfl
      have d3 := X3.out.cell 3 _ rfl
      have L4 := hid (Bx.new w3 #[.int .i64 a, .int .i64 b, .int .i64 c] 3 (by decide))
      have A4 := hid (allocB w3 (.cells #[.int .i64 a, .int .i64 b, .int .i64 c] 3))
      have B4 := hid (nextB B3.out A4.out)
      have X4 := hid (X3.out.next A4.out)
      have N4 := hid (celB A4.out N3.out)
      go_upto_region 6 with fail
      clear d1 d2 d3 X3 B3 N3 A4
      generalize World.alloc w3 _ = w4 at *
      generalize w3.heap.size = lb at *
      go_wp2_with fail
      refine wp_loop_rounds 2 ?_
      rw [rounds_succ]
      have e0 := X4.out.cell 0 _ rfl
      have q0 := L4.out.cell 0 _ rfl
      have n0 := N4.out
      have KI := hid (rText_all a w4 Ha.out)
      rw [← HSa.out] at KI
      go_wp2_with (go_at_call 42; (with_reducible refine Calls.mono KI.out ?_); rintro e w5 ⟨rfl, b5⟩; have B5 := hid (nextB B4.out b5); have X5 := hid (X4.out.next b5); have N5 := hid (celB b5 N4.out); have L5 := hid (L4.out.next b5); clear b5 KI q0 e0 n0)
      rw [rounds_succ]
      have e0 := X5.out.cell 0 _ rfl
      have n0 := N5.out
      go_wp2_with fail
      go_ret
      exact ⟨rfl, B5.out⟩
    · have SH := hid (show shP op a b c = opN op ++ ⟨#[32]⟩ ++ itS a ++ ⟨#[32]⟩ ++ itS b ++ ⟨#[32]⟩ ++ itS c from by unfold shP; rw [h]; simp [ba_assoc])
      rw [h] at KO
      rw [SH.out]
      clear SH h
      have zn := opN_size op
      have ne := (opN_in q).1
      generalize opN op = nm at *
      have za := itS_size Ha.out
      have zb := itS_size Hb.out
      have zc := itS_size Hc.out
      obtain ⟨sa, hsa⟩ : ∃ s, s = itS a := ⟨_, rfl⟩
      rw [← hsa] at za ⊢
      have HSa := hid hsa
      clear hsa
      obtain ⟨sb, hsb⟩ : ∃ s, s = itS b := ⟨_, rfl⟩
      rw [← hsb] at zb ⊢
      have HSb := hid hsb
      clear hsb
      obtain ⟨sc, hsc⟩ : ∃ s, s = itS c := ⟨_, rfl⟩
      rw [← hsc] at zc ⊢
      have HSc := hid hsc
      clear hsc
      obtain ⟨i, rfl⟩ : ∃ i : Nat, op = i := ⟨op.toNat, by omega⟩
      have hi : i < 24 := by omega
      simp only [Int.toNat_natCast] at KO
      have IH := hid hi
      clear q
      go_enter Tryd.func16, Tryd.ntmps16
      go_upto_region 1 with fail
      obtain ⟨x, hx⟩ : ∃ x, x = w.heap.size := ⟨_, rfl⟩
      rw [← hx] at X1 ⊢
      clear hx
      generalize World.alloc w _ = w1 at *
      have c0 := X1.out.cell 0 _ rfl
      go_upto_region 2 with (go_at_call 15; (with_reducible refine Calls.mono KR.out ?_); rintro e w2 ⟨rfl, b2⟩; have B2 := hid (nextB B1.out b2); have X2 := hid (X1.out.next b2); clear b2)
      clear c0 X1 B1 KR
      have KW := hid (ref14_rows_any w2)
      go_wp2_with fail
      (with_reducible refine Calls.mono KW.out ?_)
      rintro e w3 h3
      obtain ⟨ra, rb, rfl, -, cr⟩ := h3.ex
      have B3 := hid (nextB B2.out h3.bl)
      have X3 := hid (X2.out.next h3.bl)
      have N3 := hid (show w3.cell? ⟨rb, i, none⟩ = some (.int .i64 3) from by have := cr i IH.out; rw [KO.out] at this; exact this)
      clear h3 cr KW B2 X2
      have d1 := X3.out.cell 1 _ rfl
      have d2 := X3.out.cell 2 _ rfl
      have d3 := X3.out.cell 3 _ rfl
      have L4 := hid (Bx.new w3 #[.int .i64 a, .int .i64 b, .int .i64 c] 3 (by decide))
      have A4 := hid (allocB w3 (.cells #[.int .i64 a, .int .i64 b, .int .i64 c] 3))
      have B4 := hid (nextB B3.out A4.out)
      have X4 := hid (X3.out.next A4.out)
      have N4 := hid (celB A4.out N3.out)
      go_upto_region 6 with fail
      clear d1 d2 d3 X3 B3 N3 A4
      generalize World.alloc w3 _ = w4 at *
      generalize w3.heap.size = lb at *
      go_wp2_with fail
      refine wp_loop_rounds 4 ?_
      rw [rounds_succ]
      have e0 := X4.out.cell 0 _ rfl
      have q0 := L4.out.cell 0 _ rfl
      have n0 := N4.out
      have KI := hid (rText_all a w4 Ha.out)
      rw [← HSa.out] at KI
      go_wp2_with (go_at_call 42; (with_reducible refine Calls.mono KI.out ?_); rintro e w5 ⟨rfl, b5⟩; have B5 := hid (nextB B4.out b5); have X5 := hid (X4.out.next b5); have N5 := hid (celB b5 N4.out); have L5 := hid (L4.out.next b5); clear b5 KI q0 e0 n0)
      rw [rounds_succ]
      have e0 := X5.out.cell 0 _ rfl
      have q1 := L5.out.cell 1 _ rfl
      have n0 := N5.out
      have KI := hid (rText_all b w5 Hb.out)
      rw [← HSb.out] at KI
      go_wp2_with (go_at_call 42; (with_reducible refine Calls.mono KI.out ?_); rintro e w6 ⟨rfl, b6⟩; have B6 := hid (nextB B5.out b6); have X6 := hid (X5.out.next b6); have N6 := hid (celB b6 N5.out); have L6 := hid (L5.out.next b6); clear b6 KI q1 e0 n0)
      rw [rounds_succ]
      have e0 := X6.out.cell 0 _ rfl
      have q2 := L6.out.cell 2 _ rfl
      have n0 := N6.out
      have KI := hid (rText_all c w6 Hc.out)
      rw [← HSc.out] at KI
      go_wp2_with (go_at_call 42; (with_reducible refine Calls.mono KI.out ?_); rintro e w7 ⟨rfl, b7⟩; have B7 := hid (nextB B6.out b7); have X7 := hid (X6.out.next b7); have N7 := hid (celB b7 N6.out); have L7 := hid (L6.out.next b7); clear b7 KI q2 e0 n0)
      rw [rounds_succ]
      have e0 := X7.out.cell 0 _ rfl
      have n0 := N7.out
      go_wp2_with fail
      go_ret
      exact ⟨rfl, B7.out⟩
  · have e1 : opN op = ⟨#[]⟩ := by unfold opN; rw [if_neg q]
    have e2 : shP op a b c = ⟨#[]⟩ := by
      unfold shP
      rw [if_pos (by unfold opK; rw [if_neg q]), e1]
    rw [e1] at KR
    rw [e2]
    clear e1 e2
    go_enter Tryd.func16, Tryd.ntmps16
    go_upto_region 1 with fail
    obtain ⟨x, hx⟩ : ∃ x, x = w.heap.size := ⟨_, rfl⟩
    rw [← hx] at X1 ⊢
    clear hx
    generalize World.alloc w _ = w1 at *
    have c0 := X1.out.cell 0 _ rfl
    go_wp2_with (go_at_call 15; (with_reducible refine Calls.mono KR.out ?_); rintro e w2 ⟨rfl, b2⟩)
    go_ret
    exact ⟨rfl, nextB B1.out b2⟩

end Go.Proofs.YtmfbebocglhbdaaDoor
