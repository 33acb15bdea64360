/- The walks over code's Encode. -/
import Derived.Test.YtcmifdnndckpcaaDoorCe
import Derived.Laws.OwnMore
import Derived.Lib.SlBytesConst
namespace Go.Proofs.YtcmifdnndckpcaaDoor
open Go.RowKit
set_option linter.unusedVariables false
set_option linter.unusedSimpArgs false

/-- A sum's four bytes, lowest first. -/
def le4 (s : Nat) : List Int := [((s % 256 : Nat) : Int), ((s / 256 % 256 : Nat) : Int), ((s / 256 / 256 % 256 : Nat) : Int), ((s / 256 / 256 / 256 % 256 : Nat) : Int)]
theorem le4_bys (s : Nat) : Bys (le4 s) := Bys.mk (by omega) (by omega) (Bys.mk (by omega) (by omega) (Bys.mk (by omega) (by omega) (Bys.mk (by omega) (by omega) Bys.nil)))
set_option maxRecDepth 100000 in
set_option maxHeartbeats 8000000 in
theorem code_sealed_any {W0 w : World} {v : Value} {bs : List Int} (hO : Own w W0.heap.size v bs) (hB : Below W0.heap.size W0 w) (hl : bs.length ≤ 10000000) (hT : Tab w) :
    Calls Tryd.prog 34 #[v] w fun e w' => Wr W0 w w' e (bs ++ le4 (sum bs)) := by
  obtain ⟨a0, c0, rfl, y0, -, -⟩ := hO.by
  have KS := hid (pSum_any a0 bs.length c0 bs w y0 (by omega) hT)
  have SL : sum bs < 4294967296 := by unfold sum; omega
  have LE := hid (show le4 (sum bs) = le4 (sum bs) from rfl)
  have O := hid hO
  have B := hid hB
  have L := hid hl
  clear hO hB hl hT y0
  generalize sum bs = s0 at *
  obtain ⟨s1, h1⟩ : ∃ s : Nat, s = s0 / 256 := ⟨_, rfl⟩
  obtain ⟨s2, h2⟩ : ∃ s : Nat, s = s1 / 256 := ⟨_, rfl⟩
  obtain ⟨s3, h3⟩ : ∃ s : Nat, s = s2 / 256 := ⟨_, rfl⟩
  obtain ⟨s4, h4⟩ : ∃ s : Nat, s = s3 / 256 := ⟨_, rfl⟩
  obtain ⟨y0, k0⟩ : ∃ y : Int, y = ((s0 % 256 : Nat) : Int) := ⟨_, rfl⟩
  obtain ⟨y1, k1⟩ : ∃ y : Int, y = ((s1 % 256 : Nat) : Int) := ⟨_, rfl⟩
  obtain ⟨y2, k2⟩ : ∃ y : Int, y = ((s2 % 256 : Nat) : Int) := ⟨_, rfl⟩
  have E4 := hid (show le4 s0 = [y0, y1, y2, (s3 : Int)] from by unfold le4; rw [k0, k1, k2, show s0 / 256 / 256 / 256 % 256 = s3 by omega, h2, h1])
  have D0 : (s0 : Int) / 256 = (s1 : Int) := by omega
  have D1 : (s1 : Int) / 256 = (s2 : Int) := by omega
  have D2 : (s2 : Int) / 256 = (s3 : Int) := by omega
  have D3 : (s3 : Int) / 256 = (s4 : Int) := by omega
  have M0 : (s0 : Int) % 256 = y0 := by omega
  have M1 : (s1 : Int) % 256 = y1 := by omega
  have M2 : (s2 : Int) % 256 = y2 := by omega
  have R0 := hid (show 0 ≤ y0 ∧ y0 < 256 from by omega)
  have R1 := hid (show 0 ≤ y1 ∧ y1 < 256 from by omega)
  have R2 := hid (show 0 ≤ y2 ∧ y2 < 256 from by omega)
  have R3 := hid (show 0 ≤ (s3 : Int) ∧ (s3 : Int) < 256 from by omega)
  have S1 : s1 < 4294967296 := by omega
  have S2 : s2 < 4294967296 := by omega
  have S3 : s3 < 4294967296 := by omega
  have K0 := hid (Lib.OthersKept.refl 5 none w)
  clear h1 h2 h3 h4 k0 k1 k2 LE
  rw [E4.out]
  clear E4
  go_enter Tryd.func34, Tryd.ntmps34
  go_wp2_with (go_at_call 66; with_reducible refine Calls.mono KS.out ?_; rintro e w1 ⟨rfl, rfl⟩)
  refine wp_loop_rounds 5 ?_
  rw [rounds_succ]
  go_wp2_with (at_builtin; refine wpList_append_by rfl (.tmp 8) (.tmp 11) rfl W0.heap.size _ (bs) rfl (O.out.below (allocB w _)) (some ⟨(w).heap.size, 0, none⟩) 1 1 [y0] rfl (by_new _ _ _ R0.out.1 R0.out.2) (by have := L.out; (try simp only [List.length_append, List.length_cons, List.length_nil]); omega) (by have := B.out.size; simp; omega) ?_; intro v2 w2 o2 g2)
  have O2 := hid o2
  have B2 := hid (own_bl (B.out.alloc B.out.size _) (O.out.below (allocB w _)) g2)
  have K2 := hid ((K0.out.below (allocB w _)).trans (own_ok (O.out.below (allocB w _)) g2))
  clear o2 g2 O B K0
  rw [rounds_succ]
  go_wp2_with (at_builtin; refine wpList_append_by rfl (.tmp 8) (.tmp 11) rfl W0.heap.size _ (bs ++ [y0]) rfl (O2.out.below (allocB w2 _)) (some ⟨(w2).heap.size, 0, none⟩) 1 1 [y1] rfl (by_new _ _ _ R1.out.1 R1.out.2) (by have := L.out; (try simp only [List.length_append, List.length_cons, List.length_nil]); omega) (by have := B2.out.size; simp; omega) ?_; intro v3 w3 o3 g3)
  have O3 := hid o3
  have B3 := hid (own_bl (B2.out.alloc B2.out.size _) (O2.out.below (allocB w2 _)) g3)
  have K3 := hid ((K2.out.below (allocB w2 _)).trans (own_ok (O2.out.below (allocB w2 _)) g3))
  clear o3 g3 O2 B2 K2
  rw [rounds_succ]
  go_wp2_with (at_builtin; refine wpList_append_by rfl (.tmp 8) (.tmp 11) rfl W0.heap.size _ (bs ++ [y0] ++ [y1]) rfl (O3.out.below (allocB w3 _)) (some ⟨(w3).heap.size, 0, none⟩) 1 1 [y2] rfl (by_new _ _ _ R2.out.1 R2.out.2) (by have := L.out; (try simp only [List.length_append, List.length_cons, List.length_nil]); omega) (by have := B3.out.size; simp; omega) ?_; intro v4 w4 o4 g4)
  have O4 := hid o4
  have B4 := hid (own_bl (B3.out.alloc B3.out.size _) (O3.out.below (allocB w3 _)) g4)
  have K4 := hid ((K3.out.below (allocB w3 _)).trans (own_ok (O3.out.below (allocB w3 _)) g4))
  clear o4 g4 O3 B3 K3
  rw [rounds_succ]
  go_wp2_with (at_builtin; refine wpList_append_by rfl (.tmp 8) (.tmp 11) rfl W0.heap.size _ (bs ++ [y0] ++ [y1] ++ [y2]) rfl (O4.out.below (allocB w4 _)) (some ⟨(w4).heap.size, 0, none⟩) 1 1 [(s3 : Int)] rfl (by_new _ _ _ R3.out.1 R3.out.2) (by have := L.out; (try simp only [List.length_append, List.length_cons, List.length_nil]); omega) (by have := B4.out.size; simp; omega) ?_; intro v5 w5 o5 g5)
  have O5 := hid o5
  have B5 := hid (own_bl (B4.out.alloc B4.out.size _) (O4.out.below (allocB w4 _)) g5)
  have K5 := hid ((K4.out.below (allocB w4 _)).trans (own_ok (O4.out.below (allocB w4 _)) g5))
  clear o5 g5 O4 B4 K4
  rw [rounds_succ]
  go_wp2_with fail
  go_ret
  refine ⟨⟨v5, rfl, ?_⟩, B5.out, K5.out⟩
  have := O5.out
  simp only [List.append_assoc, List.cons_append, List.nil_append] at this
  exact this

/-- A program, plainly. -/
abbrev PP := List (Int × Int) × List (Int × Int × List Int × List Int) × List Int × List Int × List Int × List (List Int) × List (Int × Int × Int × Int)
def cProg (q : Bool) : Cod PP := cP (cL q cC) (cP (cL q (cT q)) (cP (cL q cI) (cP (cL q cI) (cP (cL q cI) (cP (cL q cS) (cL q cN))))))
theorem cProg_good (q : Bool) : (cProg q).Good := cP_good (cL_good cC_good) (cP_good (cL_good (cT_good q)) (cP_good (cL_good cI_good) (cP_good (cL_good cI_good) (cP_good (cL_good cI_good) (cP_good (cL_good cS_good) (cL_good cN_good))))))
def fisc : List Int := [70, 73, 83, 67]
def bodyOf (p : PP) : List Int := (cProg false).en p
def bytesOf (p : PP) : List Int := fisc ++ bodyOf p ++ le4 (sum (fisc ++ bodyOf p))
/-- A program in memory, as it is read. -/
structure Pw (w : World) (v : Value) (p : PP) : Prop where
  ex : ∃ a0 m0 c0 a1 m1 c1 a2 m2 c2 a3 m3 c3 a4 m4 c4 a5 m5 c5 a6 m6 c6, v = .agg #[.slice a0 m0 c0, .slice a1 m1 c1, .slice a2 m2 c2, .slice a3 m3 c3, .slice a4 m4 c4, .slice a5 m5 c5, .slice a6 m6 c6] ∧
    Vw aC 3 w a0 m0 p.1 ∧ Vw aT 4 w a1 m1 p.2.1 ∧ Vw aI 1 w a2 m2 p.2.2.1 ∧ Vw aI 1 w a3 m3 p.2.2.2.1 ∧ Vw aI 1 w a4 m4 p.2.2.2.2.1 ∧ Vw aS 1 w a5 m5 p.2.2.2.2.2.1 ∧ Vw aN 4 w a6 m6 p.2.2.2.2.2.2
theorem Pw.next {w w' : World} {v : Value} {p : PP} (h : Pw w v p) (b : Below w.heap.size w w') : Pw w' v p := by
  obtain ⟨a0, m0, c0, a1, m1, c1, a2, m2, c2, a3, m3, c3, a4, m4, c4, a5, m5, c5, a6, m6, c6, e, h0, h1, h2, h3, h4, h5, h6⟩ := h.ex
  exact ⟨a0, m0, c0, a1, m1, c1, a2, m2, c2, a3, m3, c3, a4, m4, c4, a5, m5, c5, a6, m6, c6, e, h0.next aC_nx b, h1.next aT_nx b, h2.next aI_nx b, h3.next aI_nx b, h4.next aI_nx b, h5.next aS_nx b, h6.next aN_nx b⟩
theorem by_fisc (w : World) : By (w.alloc (.cells #[.int .u8 70, .int .u8 73, .int .u8 83, .int .u8 67] 5 (4, 5))) (some ⟨w.heap.size, 0, none⟩) 4 4 [70, 73, 83, 67] := by
  refine ⟨rfl, Nat.le_refl _, by decide, fun e => by simp at e, ⟨w.heap.size, 0, fun _ => rfl, fun i hi => ?_⟩, ?_⟩
  · rw [Nat.zero_add, World.cell?_alloc_mark]
    match i, hi with
    | 0, _ => rfl
    | 1, _ => rfl
    | 2, _ => rfl
    | 3, _ => rfl
  · intro x hx
    simp at hx
    omega
set_option maxRecDepth 100000 in
set_option maxHeartbeats 8000000 in
theorem code_Encode_any (w : World) (v : Value) (p : PP) (hp : Pw w v p) (hl : (bodyOf p).length ≤ 8000000) (hT : Tab w) :
    Calls Tryd.prog 12 #[v] w fun e w' => New w w' e (bytesOf p) := by
  obtain ⟨p0, p1, p2, p3, p4, p5, p6⟩ := p
  obtain ⟨a0, m0, c0, a1, m1, c1, a2, m2, c2, a3, m3, c3, a4, m4, c4, a5, m5, c5, a6, m6, c6, rfl, h0, h1, h2, h3, h4, h5, h6⟩ := hp.ex
  have EB : bodyOf (p0, p1, p2, p3, p4, p5, p6) = (cL false cC).en p0 ++ ((cL false (cT false)).en p1 ++ ((cL false cI).en p2 ++ ((cL false cI).en p3 ++ ((cL false cI).en p4 ++ ((cL false cS).en p5 ++ (cL false cN).en p6))))) := rfl
  have V := hid (show Vw aC 3 w a0 m0 p0 ∧ Vw aT 4 w a1 m1 p1 ∧ Vw aI 1 w a2 m2 p2 ∧ Vw aI 1 w a3 m3 p3 ∧ Vw aI 1 w a4 m4 p4 ∧ Vw aS 1 w a5 m5 p5 ∧ Vw aN 4 w a6 m6 p6 from ⟨h0, h1, h2, h3, h4, h5, h6⟩)
  have EQ := hid (show bytesOf (p0, p1, p2, p3, p4, p5, p6) = fisc ++ bodyOf (p0, p1, p2, p3, p4, p5, p6) ++ le4 (sum (fisc ++ bodyOf (p0, p1, p2, p3, p4, p5, p6))) from rfl)
  rw [EQ.out]
  clear EQ
  rw [EB] at hl ⊢
  simp only [List.length_append] at hl
  have L := hid hl
  have T := hid hT
  have X1 := hid (Bx.new w #[.slice a0 m0 c0, .slice a1 m1 c1, .slice a2 m2 c2, .slice a3 m3 c3, .slice a4 m4 c4, .slice a5 m5 c5, .slice a6 m6 c6] 29 (by decide))
  have B1 := hid (allocB w (.cells #[.slice a0 m0 c0, .slice a1 m1 c1, .slice a2 m2 c2, .slice a3 m3 c3, .slice a4 m4 c4, .slice a5 m5 c5, .slice a6 m6 c6] 29))
  clear hp hl hT h0 h1 h2 h3 h4 h5 h6 EB
  go_enter Tryd.func12, Tryd.ntmps12
  go_upto_region 1 with fail
  obtain ⟨bx, hbx⟩ : ∃ bx, bx = w.heap.size := ⟨_, rfl⟩
  rw [← hbx] at X1 ⊢
  clear hbx
  generalize World.alloc w _ = w1 at *
  have O2 := hid (show Hd (w1.alloc (.cells #[.int .u8 70, .int .u8 73, .int .u8 83, .int .u8 67] 5 (4, 5))) w.heap.size (.slice (some ⟨w1.heap.size, 0, none⟩) 4 4) [70, 73, 83, 67] from Or.inr ⟨w1.heap.size, 0, rfl, by_fisc w1⟩)
  have B2 := hid (nextB B1.out (allocB w1 (.cells #[.int .u8 70, .int .u8 73, .int .u8 83, .int .u8 67] 5 (4, 5))))
  have X2 := hid (X1.out.next (allocB w1 (.cells #[.int .u8 70, .int .u8 73, .int .u8 83, .int .u8 67] 5 (4, 5))))
  have kc := fun (w : World) (C : Array Value) (n c : Nat) => Lib.run_convert_bytes_const (P := Tryd.prog) w 38 5 C n c Tryd.underlying38 Tryd.underlying5
  go_upto_region 2 with fail
  clear X1 B1 kc
  generalize World.alloc w1 _ = w2 at *
  generalize (Value.slice (some ⟨w1.heap.size, 0, none⟩) 4 4) = v2 at *
  have d0 := X2.out.cell 0 _ rfl
  have KC := hid (clVal_any (cap := c0) V.out.1 O2.out B2.out (by have := L.out; simp only [List.length_append, List.length_cons, List.length_nil]; omega))
  go_upto_region 3 with (go_at_call 24; with_reducible refine Calls.mono KC.out ?_; rintro e w3 ⟨⟨v3, rfl, o3⟩, b3, k3⟩; have O3 := hid o3; have B3 := hid b3; have X3 := hid (X2.out.keep k3); clear o3 b3 k3 KC)
  clear d0 O2 B2 X2
  have d1 := X3.out.cell 1 _ rfl
  have KC := hid (clTab_any (cap := c1) V.out.2.1 (Or.inl O3.out) B3.out (by have := L.out; simp only [List.length_append, List.length_cons, List.length_nil]; omega))
  go_upto_region 4 with (go_at_call 26; with_reducible refine Calls.mono KC.out ?_; rintro e w4 ⟨⟨v4, rfl, o4⟩, b4, k4⟩; have O4 := hid o4; have B4 := hid b4; have X4 := hid (X3.out.keep k4); clear o4 b4 k4 KC)
  clear d1 O3 B3 X3
  have d2 := X4.out.cell 2 _ rfl
  have KC := hid (clKind_any (cap := c2) V.out.2.2.1 (Or.inl O4.out) B4.out (by have := L.out; simp only [List.length_append, List.length_cons, List.length_nil]; omega))
  go_upto_region 5 with (go_at_call 28; with_reducible refine Calls.mono KC.out ?_; rintro e w5 ⟨⟨v5, rfl, o5⟩, b5, k5⟩; have O5 := hid o5; have B5 := hid b5; have X5 := hid (X4.out.keep k5); clear o5 b5 k5 KC)
  clear d2 O4 B4 X4
  have d3 := X5.out.cell 3 _ rfl
  have KC := hid (clKind_any (cap := c3) V.out.2.2.2.1 (Or.inl O5.out) B5.out (by have := L.out; simp only [List.length_append, List.length_cons, List.length_nil]; omega))
  go_upto_region 6 with (go_at_call 28; with_reducible refine Calls.mono KC.out ?_; rintro e w6 ⟨⟨v6, rfl, o6⟩, b6, k6⟩; have O6 := hid o6; have B6 := hid b6; have X6 := hid (X5.out.keep k6); clear o6 b6 k6 KC)
  clear d3 O5 B5 X5
  have d4 := X6.out.cell 4 _ rfl
  have KC := hid (clKind_any (cap := c4) V.out.2.2.2.2.1 (Or.inl O6.out) B6.out (by have := L.out; simp only [List.length_append, List.length_cons, List.length_nil]; omega))
  go_upto_region 7 with (go_at_call 28; with_reducible refine Calls.mono KC.out ?_; rintro e w7 ⟨⟨v7, rfl, o7⟩, b7, k7⟩; have O7 := hid o7; have B7 := hid b7; have X7 := hid (X6.out.keep k7); clear o7 b7 k7 KC)
  clear d4 O6 B6 X6
  have d5 := X7.out.cell 5 _ rfl
  have KC := hid (clStr_any (cap := c5) V.out.2.2.2.2.2.1 (Or.inl O7.out) B7.out (by have := L.out; simp only [List.length_append, List.length_cons, List.length_nil]; omega))
  go_upto_region 8 with (go_at_call 30; with_reducible refine Calls.mono KC.out ?_; rintro e w8 ⟨⟨v8, rfl, o8⟩, b8, k8⟩; have O8 := hid o8; have B8 := hid b8; have X8 := hid (X7.out.keep k8); clear o8 b8 k8 KC)
  clear d5 O7 B7 X7
  have d6 := X8.out.cell 6 _ rfl
  have KC := hid (clIns_any (cap := c6) V.out.2.2.2.2.2.2 (Or.inl O8.out) B8.out (by have := L.out; simp only [List.length_append, List.length_cons, List.length_nil]; omega))
  go_upto_region 9 with (go_at_call 32; with_reducible refine Calls.mono KC.out ?_; rintro e w9 ⟨⟨v9, rfl, o9⟩, b9, k9⟩; have O9 := hid o9; have B9 := hid b9; have X9 := hid (X8.out.keep k9); clear o9 b9 k9 KC)
  clear d6 O8 B8 X8
  have TT := hid (T.out.next B9.out)
  have KC := hid (code_sealed_any O9.out B9.out (by have := L.out; simp only [List.length_append, List.length_cons, List.length_nil]; omega) TT.out)
  go_wp2_with (go_at_call 34; with_reducible refine Calls.mono KC.out ?_; rintro e wz ⟨⟨vz, rfl, oz⟩, bz, kz⟩)
  go_ret
  refine ⟨⟨vz, rfl, ?_⟩, bz⟩
  simp only [List.append_assoc] at oz
  show Own wz w.heap.size vz ([70, 73, 83, 67] ++ _ ++ le4 (sum ([70, 73, 83, 67] ++ _)))
  simp only [List.append_assoc]
  exact oz

end Go.Proofs.YtcmifdnndckpcaaDoor
