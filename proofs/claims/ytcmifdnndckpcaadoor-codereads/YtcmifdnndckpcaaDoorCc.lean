/- The walks over code's writers of one thing: a number, a text, a constant, an instruction. -/
import Derived.Test.YtcmifdnndckpcaaDoorCb
import Derived.Deep.DeepCutAuto
namespace Go.Proofs.YtcmifdnndckpcaaDoor
open Go.RowKit
set_option linter.unusedVariables false
set_option linter.unusedSimpArgs false

set_option maxRecDepth 100000 in
set_option maxHeartbeats 4000000 in
theorem cnKind_any {W0 w : World} {v : Value} {bs : List Int} (n : Int) (hO : Own w W0.heap.size v bs) (hB : Below W0.heap.size W0 w) (hl : bs.length ≤ 20000000) (hn : cI.ok n) :
    Calls Tryd.prog 29 #[v, .int .i64 n] w fun e w' => Wr W0 w w' e (bs ++ cI.en n) := by
  have O := hid hO
  have B := hid hB
  have L := hid hl
  have E10 := hid (show (enc (zig n)).length ≤ 10 from enc_len10 (zig_lt hn.1 hn.2))
  have K := hid (pI_any none 0 0 n [] w (By.empty w) (by decide) hn.1 hn.2)
  clear hO hB hl hn
  rw [show cI.en n = enc (zig n) from rfl]
  generalize enc (zig n) = z at *
  go_enter Tryd.func29, Tryd.ntmps29
  go_wp2_with fail
  refine K.out.mono ?_
  rintro e w1 ⟨⟨v1, rfl, o1⟩, b1⟩
  rw [List.nil_append] at o1
  obtain ⟨a1, c1, rfl, y1, s1, -⟩ := o1.by
  have O1 := hid (O.out.below b1)
  have Y1 := hid y1
  have B1 := hid (B.out.trans (b1.mono B.out.size))
  have K1 := hid ((Lib.OthersKept.refl 5 none w).below b1)
  clear o1 y1 s1 b1 K O B
  go_wp2_with (at_builtin; refine wpList_append_by rfl (.tmp 5) (.tmp 7) rfl W0.heap.size v bs rfl O1.out a1 _ c1 _ rfl Y1.out (by have := L.out; have := E10.out; omega) B1.out.size ?_; intro v2 w2 o2 g2)
  go_ret
  exact ⟨⟨v2, rfl, o2⟩, own_bl B1.out O1.out g2, K1.out.trans (own_ok O1.out g2)⟩
set_option maxRecDepth 100000 in
set_option maxHeartbeats 4000000 in
theorem cnI64_any {W0 w : World} {v : Value} {bs : List Int} (n : Int) (hO : Own w W0.heap.size v bs) (hB : Below W0.heap.size W0 w) (hl : bs.length ≤ 20000000) (hn : cI.ok n) :
    Calls Tryd.prog 61 #[v, .int .i64 n] w fun e w' => Wr W0 w w' e (bs ++ cI.en n) := by
  have O := hid hO
  have B := hid hB
  have L := hid hl
  have E10 := hid (show (enc (zig n)).length ≤ 10 from enc_len10 (zig_lt hn.1 hn.2))
  have K := hid (pI_any none 0 0 n [] w (By.empty w) (by decide) hn.1 hn.2)
  clear hO hB hl hn
  rw [show cI.en n = enc (zig n) from rfl]
  generalize enc (zig n) = z at *
  go_enter Tryd.func61, Tryd.ntmps61
  go_wp2_with fail
  refine K.out.mono ?_
  rintro e w1 ⟨⟨v1, rfl, o1⟩, b1⟩
  rw [List.nil_append] at o1
  obtain ⟨a1, c1, rfl, y1, s1, -⟩ := o1.by
  have O1 := hid (O.out.below b1)
  have Y1 := hid y1
  have B1 := hid (B.out.trans (b1.mono B.out.size))
  have K1 := hid ((Lib.OthersKept.refl 5 none w).below b1)
  clear o1 y1 s1 b1 K O B
  go_wp2_with (at_builtin; refine wpList_append_by rfl (.tmp 5) (.tmp 7) rfl W0.heap.size v bs rfl O1.out a1 _ c1 _ rfl Y1.out (by have := L.out; have := E10.out; omega) B1.out.size ?_; intro v2 w2 o2 g2)
  go_ret
  exact ⟨⟨v2, rfl, o2⟩, own_bl B1.out O1.out g2, K1.out.trans (own_ok O1.out g2)⟩
set_option maxRecDepth 100000 in
set_option maxHeartbeats 4000000 in
theorem cnInt_any {W0 w : World} {v : Value} {bs : List Int} (n : Int) (hO : Own w W0.heap.size v bs) (hB : Below W0.heap.size W0 w) (hl : bs.length ≤ 20000000) (hn : cI.ok n) :
    Calls Tryd.prog 65 #[v, .int .i64 n] w fun e w' => Wr W0 w w' e (bs ++ cI.en n) := by
  have O := hid hO
  have B := hid hB
  have L := hid hl
  have E10 := hid (show (enc (zig n)).length ≤ 10 from enc_len10 (zig_lt hn.1 hn.2))
  have K := hid (pI_any none 0 0 n [] w (By.empty w) (by decide) hn.1 hn.2)
  clear hO hB hl hn
  rw [show cI.en n = enc (zig n) from rfl]
  generalize enc (zig n) = z at *
  go_enter Tryd.func65, Tryd.ntmps65
  go_wp2_with fail
  refine K.out.mono ?_
  rintro e w1 ⟨⟨v1, rfl, o1⟩, b1⟩
  rw [List.nil_append] at o1
  obtain ⟨a1, c1, rfl, y1, s1, -⟩ := o1.by
  have O1 := hid (O.out.below b1)
  have Y1 := hid y1
  have B1 := hid (B.out.trans (b1.mono B.out.size))
  have K1 := hid ((Lib.OthersKept.refl 5 none w).below b1)
  clear o1 y1 s1 b1 K O B
  go_wp2_with (at_builtin; refine wpList_append_by rfl (.tmp 5) (.tmp 7) rfl W0.heap.size v bs rfl O1.out a1 _ c1 _ rfl Y1.out (by have := L.out; have := E10.out; omega) B1.out.size ?_; intro v2 w2 o2 g2)
  go_ret
  exact ⟨⟨v2, rfl, o2⟩, own_bl B1.out O1.out g2, K1.out.trans (own_ok O1.out g2)⟩
set_option maxRecDepth 100000 in
set_option maxHeartbeats 4000000 in
theorem code_text_any {W0 w : World} {v : Value} {bs : List Int} (s : ByteArray) (hO : Own w W0.heap.size v bs) (hB : Below W0.heap.size W0 w) (hl : bs.length ≤ 20000000) (hs : s.size ≤ 10000000) :
    Calls Tryd.prog 31 #[v, .string s] w fun e w' => Wr W0 w w' e (bs ++ cS.en (nums s)) := by
  have O := hid hO
  have B := hid hB
  have L := hid hl
  have E10 := hid (show (enc s.size ++ nums s).length ≤ 10000010 from by have := enc_len10 (show s.size < 18446744073709551616 by omega); rw [List.length_append, nums_len]; omega)
  have EN := hid (show cS.en (nums s) = enc s.size ++ nums s from by show enc (nums s).length ++ _ = _; rw [nums_len])
  have K0 := pS_any none 0 0 s [] w (By.empty w) (by decide) hs
  rw [List.nil_append] at K0
  have K := hid K0
  clear K0
  clear hO hB hl hs
  rw [EN.out]
  clear EN
  generalize enc s.size ++ nums s = z at *
  go_enter Tryd.func31, Tryd.ntmps31
  go_wp2_with fail
  refine K.out.mono ?_
  rintro e w1 ⟨⟨v1, rfl, o1⟩, b1⟩
  obtain ⟨a1, c1, rfl, y1, s1, -⟩ := o1.by
  have O1 := hid (O.out.below b1)
  have Y1 := hid y1
  have B1 := hid (B.out.trans (b1.mono B.out.size))
  have K1 := hid ((Lib.OthersKept.refl 5 none w).below b1)
  clear o1 y1 s1 b1 K O B
  go_wp2_with (at_builtin; refine wpList_append_by rfl (.tmp 5) (.tmp 7) rfl W0.heap.size v bs rfl O1.out a1 _ c1 _ rfl Y1.out (by have := L.out; have := E10.out; omega) B1.out.size ?_; intro v2 w2 o2 g2)
  go_ret
  exact ⟨⟨v2, rfl, o2⟩, own_bl B1.out O1.out g2, K1.out.trans (own_ok O1.out g2)⟩
set_option maxRecDepth 100000 in
set_option maxHeartbeats 4000000 in
theorem code_constant_any {W0 w : World} {v : Value} {bs : List Int} (x y : Int) (a : Option Addr) (m c : Nat) (hO : Own w W0.heap.size v bs) (hB : Below W0.heap.size W0 w) (hl : bs.length ≤ 10000000) (hx : cI.ok x) (hy : cI.ok y) :
    Calls Tryd.prog 25 #[v, .agg #[.int .i64 x, .int .i64 y, .slice a m c]] w fun e w' => Wr W0 w w' e (bs ++ cC.en (x, y)) := by
  have E10 := hid (show (cI.en x).length ≤ 10 from enc_len10 (zig_lt hx.1 hx.2))
  have O2 := hid (hO.below (allocB w (.cells #[.int .i64 x, .int .i64 y, .slice a m c] 62)))
  have B2 := hid (hB.alloc hB.size (.cells #[.int .i64 x, .int .i64 y, .slice a m c] 62))
  have X2 := hid (Bx.new w #[.int .i64 x, .int .i64 y, .slice a m c] 62 (by decide))
  have K2 := hid ((Lib.OthersKept.refl 5 none w).below (allocB w (.cells #[.int .i64 x, .int .i64 y, .slice a m c] 62)))
  have L := hid hl
  have HX := hid hx
  have HY := hid hy
  clear hO hB hl hx hy
  go_enter Tryd.func25, Tryd.ntmps25
  go_upto_region 1 with fail
  generalize World.alloc w _ = w2 at *
  generalize w.heap.size = p at *
  refine wp_region_held_drew (S := fun W => Bx W p 62 #[.int .i64 x, .int .i64 y, .slice a m c]) (by kernel_rfl) (X2.out.next (Below.refl _ _).drew) (fun hHeld => ?_)
  have O3 := hid (show Own w2.drew W0.heap.size v bs from O2.out.below (Below.refl _ _).drew)
  have B3 := hid (show Below W0.heap.size W0 w2.drew from B2.out.drew)
  have K3 := hid (show Lib.OthersKept 5 none w w2.drew from K2.out.drew)
  clear O2 B2 K2 X2
  generalize w2.drew = wz at *
  refine tk 0 (v) 5 rfl rfl rfl (by kernel_rfl) (fun _ _ _ h => h) (by rfl) hHeld ?_ ?_
  · (intro W hW; (try dsimp only at hW); go_simp)
  try simp only [Act.put, List.setIfInBounds_toArray, List.set_cons_zero, List.set_cons_succ]
  refine tk 1 (.pointer (some ⟨p, 0, none⟩)) 6 rfl rfl rfl (by kernel_rfl) (fun _ _ _ h => h) (by rfl) hHeld ?_ ?_
  · (intro W hW; (try dsimp only at hW); go_simp)
  try simp only [Act.put, List.setIfInBounds_toArray, List.set_cons_zero, List.set_cons_succ]
  refine tk 2 (.int .i64 x) 7 rfl rfl rfl (by kernel_rfl) (fun _ _ _ h => h) (by rfl) hHeld ?_ ?_
  · (intro W hW; (try dsimp only at hW); have c0 := hW.cell 0 _ rfl; go_simp)
  try simp only [Act.put, List.setIfInBounds_toArray, List.set_cons_zero, List.set_cons_succ]
  refine tk 4 (.pointer (some ⟨p, 1, none⟩)) 9 rfl rfl rfl (by kernel_rfl) (fun _ _ _ h => h) (by rfl) hHeld ?_ ?_
  · (intro W hW; (try dsimp only at hW); go_simp)
  try simp only [Act.put, List.setIfInBounds_toArray, List.set_cons_zero, List.set_cons_succ]
  refine tk 5 (.int .i64 y) 10 rfl rfl rfl (by kernel_rfl) (fun _ _ _ h => h) (by rfl) hHeld ?_ ?_
  · (intro W hW; (try dsimp only at hW); have c0 := hW.cell 1 _ rfl; go_simp)
  try simp only [Act.put, List.setIfInBounds_toArray, List.set_cons_zero, List.set_cons_succ]
  refine wpAnyH_ready (rs := [3]) (by kernel_rfl) (by simp) ?_
  refine cons2 rfl rfl (fun K9 hK => ?_)
  go_simp
  refine Calls.mono (cnKind_any x O3.out B3.out (by have := L.out; omega) HX.out) ?_
  rintro e w4 ⟨⟨v4, rfl, o4⟩, b4, k4⟩
  have O4 := hid o4
  have B4 := hid b4
  have K4 := hid k4
  clear o4 b4 k4
  go_wp2_with fail
  refine hK.out _ _ (hHeld.keep K4.out) (fun hX => ?_)
  clear hK K9 hHeld
  have hHeld := hX
  clear hX
  try simp only [Act.put, List.setIfInBounds_toArray, List.set_cons_zero, List.set_cons_succ]
  refine wpAnyH_ready (rs := [6]) (by kernel_rfl) (by simp) ?_
  refine cons2 rfl rfl (fun K9 hK => ?_)
  go_simp
  refine Calls.mono (cnI64_any y O4.out B4.out (by have := L.out; have := E10.out; rw [List.length_append]; omega) HY.out) ?_
  rintro e w5 ⟨⟨v5, rfl, o5⟩, b5, k5⟩
  have O5 := hid o5
  have B5 := hid b5
  have K5 := hid k5
  clear o5 b5 k5
  go_wp2_with fail
  refine hK.out _ _ (hHeld.keep K5.out) (fun hX => ?_)
  clear hK K9 hHeld
  have hHeld := hX
  clear hX
  try simp only [Act.put, List.setIfInBounds_toArray, List.set_cons_zero, List.set_cons_succ]
  refine tk 7 (v5) 4 rfl rfl rfl (by kernel_rfl) (fun _ _ _ h => h) (by rfl) hHeld ?_ ?_
  · (intro W hW; (try dsimp only at hW); go_simp)
  try simp only [Act.put, List.setIfInBounds_toArray, List.set_cons_zero, List.set_cons_succ]
  refine wpAnyH_done (by kernel_rfl) ?_ _
  go_wp2_with fail
  go_ret
  refine ⟨⟨v5, rfl, ?_⟩, B5.out, (K3.out.trans K4.out).trans K5.out⟩
  have := O5.out
  rw [List.append_assoc] at this
  exact this
theorem idx4_0 (x0 x1 x2 x3 : Int) (W : World) : (Instr.index 109 (.agg #[.int .i64 x0, .int .i64 x1, .int .i64 x2, .int .i64 x3]) (.int .i64 0)).run Tryd.prog W = .ok (.int .i64 x0) W := by kernel_rfl
theorem idx4_1 (x0 x1 x2 x3 : Int) (W : World) : (Instr.index 109 (.agg #[.int .i64 x0, .int .i64 x1, .int .i64 x2, .int .i64 x3]) (.int .i64 1)).run Tryd.prog W = .ok (.int .i64 x1) W := by kernel_rfl
theorem idx4_2 (x0 x1 x2 x3 : Int) (W : World) : (Instr.index 109 (.agg #[.int .i64 x0, .int .i64 x1, .int .i64 x2, .int .i64 x3]) (.int .i64 2)).run Tryd.prog W = .ok (.int .i64 x2) W := by kernel_rfl
theorem idx4_3 (x0 x1 x2 x3 : Int) (W : World) : (Instr.index 109 (.agg #[.int .i64 x0, .int .i64 x1, .int .i64 x2, .int .i64 x3]) (.int .i64 3)).run Tryd.prog W = .ok (.int .i64 x3) W := by kernel_rfl
set_option maxRecDepth 100000 in
set_option maxHeartbeats 4000000 in
theorem code_instr_any {W0 w : World} {v : Value} {bs : List Int} (x0 x1 x2 x3 : Int) (hO : Own w W0.heap.size v bs) (hB : Below W0.heap.size W0 w) (hl : bs.length ≤ 10000000) (h0 : cI.ok x0) (h1 : cI.ok x1) (h2 : cI.ok x2) (h3 : cI.ok x3) :
    Calls Tryd.prog 33 #[v, .agg #[.int .i64 x0, .int .i64 x1, .int .i64 x2, .int .i64 x3]] w fun e w' => Wr W0 w w' e (bs ++ cN.en (x0, x1, x2, x3)) := by
  have E0 := hid (show (cI.en x0).length ≤ 10 from enc_len10 (zig_lt h0.1 h0.2))
  have E1 := hid (show (cI.en x1).length ≤ 10 from enc_len10 (zig_lt h1.1 h1.2))
  have E2 := hid (show (cI.en x2).length ≤ 10 from enc_len10 (zig_lt h2.1 h2.2))
  have O2 := hid (hO.below (allocB w (.cells #[.int .i64 x0, .int .i64 x1, .int .i64 x2, .int .i64 x3] 36)))
  have B2 := hid (hB.alloc hB.size (.cells #[.int .i64 x0, .int .i64 x1, .int .i64 x2, .int .i64 x3] 36))
  have X2 := hid (Bx.new w #[.int .i64 x0, .int .i64 x1, .int .i64 x2, .int .i64 x3] 36 (by decide))
  have K2 := hid ((Lib.OthersKept.refl 5 none w).below (allocB w (.cells #[.int .i64 x0, .int .i64 x1, .int .i64 x2, .int .i64 x3] 36)))
  have L := hid hl
  have H0 := hid h0
  have H1 := hid h1
  have H2 := hid h2
  have H3 := hid h3
  clear hO hB hl h0 h1 h2 h3
  go_enter Tryd.func33, Tryd.ntmps33
  go_upto_region 1 with fail
  generalize World.alloc w _ = w2 at *
  generalize w.heap.size = p at *
  have c0 := X2.out.cell 0 _ rfl
  have c1 := X2.out.cell 1 _ rfl
  have c2 := X2.out.cell 2 _ rfl
  have c3 := X2.out.cell 3 _ rfl
  go_wp2_with fail
  clear c0 c1 c2 c3
  have i0 := fun W => idx4_0 x0 x1 x2 x3 W
  have i1 := fun W => idx4_1 x0 x1 x2 x3 W
  have i2 := fun W => idx4_2 x0 x1 x2 x3 W
  have i3 := fun W => idx4_3 x0 x1 x2 x3 W
  refine wp_loop_rounds 5 ?_
  rw [rounds_succ]
  have KC := hid (cnInt_any x0 O2.out B2.out (by have := L.out; omega) H0.out)
  go_wp2_with (go_at_call 65; with_reducible refine Calls.mono KC.out ?_; rintro e y0 ⟨⟨u0, rfl, o0⟩, b0, k0⟩; have P0 := hid o0; have Q0 := hid b0; have R0 := hid k0; clear o0 b0 k0 KC)
  rw [rounds_succ]
  have KC := hid (cnInt_any x1 P0.out Q0.out (by have := L.out; have := E0.out; simp only [List.length_append]; omega) H1.out)
  go_wp2_with (go_at_call 65; with_reducible refine Calls.mono KC.out ?_; rintro e y1 ⟨⟨u1, rfl, o1⟩, b1, k1⟩; have P1 := hid o1; have Q1 := hid b1; have R1 := hid k1; clear o1 b1 k1 KC)
  rw [rounds_succ]
  have KC := hid (cnInt_any x2 P1.out Q1.out (by have := L.out; have := E0.out; have := E1.out; simp only [List.length_append]; omega) H2.out)
  go_wp2_with (go_at_call 65; with_reducible refine Calls.mono KC.out ?_; rintro e y2 ⟨⟨u2, rfl, o2⟩, b2, k2⟩; have P2 := hid o2; have Q2 := hid b2; have R2 := hid k2; clear o2 b2 k2 KC)
  rw [rounds_succ]
  have KC := hid (cnInt_any x3 P2.out Q2.out (by have := L.out; have := E0.out; have := E1.out; have := E2.out; simp only [List.length_append]; omega) H3.out)
  go_wp2_with (go_at_call 65; with_reducible refine Calls.mono KC.out ?_; rintro e y3 ⟨⟨u3, rfl, o3⟩, b3, k3⟩; have P3 := hid o3; have Q3 := hid b3; have R3 := hid k3; clear o3 b3 k3 KC)
  rw [rounds_succ]
  go_wp2_with fail
  go_ret
  refine ⟨⟨u3, rfl, ?_⟩, Q3.out, (((K2.out.trans R0.out).trans R1.out).trans R2.out).trans R3.out⟩
  have := P3.out
  simp only [List.append_assoc] at this
  exact this

end Go.Proofs.YtcmifdnndckpcaaDoor
