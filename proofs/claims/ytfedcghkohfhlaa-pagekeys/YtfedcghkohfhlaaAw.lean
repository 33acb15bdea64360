/- The walk over the law's own look at a leaf. -/
import Derived.Test.YtfedcghkohfhlaaAm
namespace Go.Proofs.Ytfedcghkohfhlaa
open Go.RowKit
set_option linter.unusedVariables false
set_option linter.unusedSimpArgs false

theorem pvA (w : World) : Below w.heap.size w (((w.alloc (.cells #[.string ⟨#[97]⟩] 9)).alloc (.cells #[.string ⟨#[49]⟩] 9)).alloc (.cells #[.bool true, .slice (some ⟨w.heap.size, 0, none⟩) 1 1, .slice (some ⟨w.heap.size + 1, 0, none⟩) 1 1, .slice none 0 0] 26)) ∧ Pv (((w.alloc (.cells #[.string ⟨#[97]⟩] 9)).alloc (.cells #[.string ⟨#[49]⟩] 9)).alloc (.cells #[.bool true, .slice (some ⟨w.heap.size, 0, none⟩) 1 1, .slice (some ⟨w.heap.size + 1, 0, none⟩) 1 1, .slice none 0 0] 26)) (.agg #[.bool true, .slice (some ⟨w.heap.size, 0, none⟩) 1 1, .slice (some ⟨w.heap.size + 1, 0, none⟩) 1 1, .slice none 0 0]) pgA ∧ B4 (((w.alloc (.cells #[.string ⟨#[97]⟩] 9)).alloc (.cells #[.string ⟨#[49]⟩] 9)).alloc (.cells #[.bool true, .slice (some ⟨w.heap.size, 0, none⟩) 1 1, .slice (some ⟨w.heap.size + 1, 0, none⟩) 1 1, .slice none 0 0] 26)) (w.heap.size + 1 + 1) (.bool true) (.slice (some ⟨w.heap.size, 0, none⟩) 1 1) (.slice (some ⟨w.heap.size + 1, 0, none⟩) 1 1) (.slice none 0 0) := by
  have b1 := allocB w (.cells #[.string ⟨#[97]⟩] 9)
  have b2 := allocB (w.alloc (.cells #[.string ⟨#[97]⟩] 9)) (.cells #[.string ⟨#[49]⟩] 9)
  have b3 := allocB ((w.alloc (.cells #[.string ⟨#[97]⟩] 9)).alloc (.cells #[.string ⟨#[49]⟩] 9)) (.cells #[.bool true, .slice (some ⟨w.heap.size, 0, none⟩) 1 1, .slice (some ⟨w.heap.size + 1, 0, none⟩) 1 1, .slice none 0 0] 26)
  have s1 := ((sl_new w (.string ⟨#[97]⟩) 9 rfl).below b2).below b3
  have s2 := (sl_new (w.alloc (.cells #[.string ⟨#[97]⟩] 9)) (.string ⟨#[49]⟩) 9 rfl).below b3
  have q := B4.new ((w.alloc (.cells #[.string ⟨#[97]⟩] 9)).alloc (.cells #[.string ⟨#[49]⟩] 9)) (.bool true) (.slice (some ⟨w.heap.size, 0, none⟩) 1 1) (.slice (some ⟨w.heap.size + 1, 0, none⟩) 1 1) (.slice none 0 0) 26
  rw [World.size_alloc] at s2
  rw [World.size_alloc, World.size_alloc] at q
  exact ⟨nextB (nextB b1 b2) b3, Pv.mk' s1 s2 (Sl.empty _) (fun k hk => by simp at hk), q⟩
theorem pvM1 (w : World) : Pv ((w.alloc (.cells #[.string ⟨#[109]⟩] 9)).alloc (.cells #[.int .u64 1, .int .u64 2] 31)) (.agg #[.bool false, .slice (some ⟨w.heap.size, 0, none⟩) 1 1, .slice none 0 0, .slice (some ⟨w.heap.size + 1, 0, none⟩) 2 2]) pgM := by
  have s1 := (sl_new w (.string ⟨#[109]⟩) 9 rfl).below (allocB _ (.cells #[.int .u64 1, .int .u64 2] 31))
  have o2 := ow_new (w.alloc (.cells #[.string ⟨#[109]⟩] 9)) 31 [.int .u64 1, .int .u64 2] (fun u hu => by simp at hu; rcases hu with rfl | rfl <;> rfl) (by decide)
  obtain ⟨a, c, e, s2, _⟩ := o2.sl
  injection e with e1 e2 e3
  subst e1 e3
  rw [World.size_alloc] at s2
  exact Pv.mk' s1 (Sl.empty _) s2 (fun k hk => by simp at hk; omega)
theorem pvM2 (w : World) : Pv ((w.alloc (.cells #[.int .u64 1, .int .u64 2] 31)).alloc (.cells #[.string ⟨#[109]⟩] 9)) (.agg #[.bool false, .slice (some ⟨w.heap.size + 1, 0, none⟩) 1 1, .slice none 0 0, .slice (some ⟨w.heap.size, 0, none⟩) 2 2]) pgM := by
  have s1 := sl_new (w.alloc (.cells #[.int .u64 1, .int .u64 2] 31)) (.string ⟨#[109]⟩) 9 rfl
  have o2 := ow_new w 31 [.int .u64 1, .int .u64 2] (fun u hu => by simp at hu; rcases hu with rfl | rfl <;> rfl) (by decide)
  obtain ⟨a, c, e, s2, _⟩ := o2.sl
  injection e with e1 e2 e3
  subst e1 e3
  rw [World.size_alloc] at s1
  exact Pv.mk' s1 (Sl.empty _) (s2.below (allocB _ _)) (fun k hk => by simp at hk; omega)
/-- The contracts, at these pages. -/
theorem enA (v : Value) (W : World) (h : Pv W v pgA) : Calls Try.prog 16 #[v] W fun e w' => New W w' e [76, 1, 1, 97, 1, 49] := by
  have := Encode_any v pgA W h pgA_fit
  rwa [pgA_enc] at this
theorem fiA (v : Value) (W : World) (h : Pv W v pgA) : Calls Try.prog 24 #[v, .string ⟨#[97]⟩] W fun e w' => e = .returned (.tuple #[.int .i64 0, .bool true]) ∧ Below W.heap.size W w' := by
  have := Find_leaf v pgA ⟨#[97]⟩ W h pgA_fit.bd riseA rfl
  rwa [pgA_pos, pgA_fnd] at this
theorem puA (v : Value) (W : World) (h : Pv W v pgA) : Calls Try.prog 23 #[v, .string ⟨#[98]⟩, .string ⟨#[50]⟩] W fun e w' => NewP W w' e pgR := by
  have := Put_leaf v pgA ⟨#[98]⟩ ⟨#[50]⟩ W h pgA_fit riseA rfl
  rwa [pgA_put] at this
theorem drR (v : Value) (W : World) (h : Pv W v pgR) : Calls Try.prog 26 #[v, .string ⟨#[97]⟩] W fun e w' => NewP W w' e pgS := by
  have := Drop_leaf v pgR ⟨#[97]⟩ W h pgR_fit riseR rfl
  rwa [pgR_drop] at this
theorem spR (v : Value) (W : World) (h : Pv W v pgR) : Calls Try.prog 11 #[v] W fun e w' => NewS W w' e (lfA pgR) ⟨#[98]⟩ (lfB pgR) := by
  have := Split_leaf v pgR W h pgR_fit rfl (by decide)
  rwa [pgR_key] at this
theorem goA (v : Value) (W : World) (h : Pv W v pgA) : Calls Try.prog 12 #[v] W fun e w' => e = .returned (.bool true) ∧ Below W.heap.size W w' := by
  have := Good_any v pgA W h pgA_fit.bd
  rwa [pgA_good] at this
theorem byA (v : Value) (W : World) (h : Pv W v pgA) : Calls Try.prog 18 #[v] W fun e w' => e = .returned (.int .i64 6) ∧ Below W.heap.size W w' := by
  have := Bytes_any v pgA W h pgA_fit
  rwa [pgA_enc] at this
theorem kiM (v : Value) (W : World) (h : Pv W v pgM) : Calls Try.prog 22 #[v, .string ⟨#[110]⟩] W fun e w' => e = .returned (.int .i64 1) ∧ Below W.heap.size W w' := by
  have := Kid_branch v pgM ⟨#[110]⟩ W h pgM_fit.bd riseM rfl
  rwa [pgM_pl] at this

set_option maxRecDepth 100000 in
set_option maxHeartbeats 4000000 in
theorem awake_any (w : World) : Calls Try.prog 9 #[] w fun e w' => e = .returned (.bool true) ∧ Below w.heap.size w w' := by
  have C2 : Hid _ := pvA w
  go_enter Try.func9, Try.ntmps9
  go_upto_region 2 with fail
  generalize (((w.alloc (.cells #[.string ⟨#[97]⟩] 9)).alloc (.cells #[.string ⟨#[49]⟩] 9)).alloc (.cells #[.bool true, .slice (some ⟨w.heap.size, 0, none⟩) 1 1, .slice (some ⟨w.heap.size + 1, 0, none⟩) 1 1, .slice none 0 0] 26)) = w2 at *
  have p0 := C2.out.2.2.a0
  have p1 := C2.out.2.2.a1
  have p2 := C2.out.2.2.a2
  have p3 := C2.out.2.2.a3
  go_wp2_with fail
  refine Calls.mono (enA _ w2 C2.out.2.1) ?_
  rintro e w3 ⟨⟨v3, rfl, o3⟩, b3⟩
  obtain ⟨ba, bc, rfl, y3, _, _⟩ := o3.by
  have C3 : Hid _ := y3
  have X3 : Hid (Below w.heap.size w w3) := nextB C2.out.1 b3
  have D3 : Hid (Below w2.heap.size w2 w3) := b3
  clear o3 y3 b3 p0 p1 p2 p3
  simp only [List.length_cons, List.length_nil, Nat.zero_add, Nat.reduceAdd] at C3 ⊢
  go_wp2_with fail
  refine Calls.mono (Decode_any ba 6 bc _ w3 C3.out (by decide)) ?_
  rintro e w4 DP
  obtain ⟨v4, rfl, P4'⟩ := DP.yes pgA pgA_dcd
  have b4 := DP.bel
  obtain ⟨a4, m4, c4, d4, n4, f4, g4, o4, h4, rfl, s4, _, _⟩ := P4'.ex
  have P4 : Hid _ := P4'
  have A4 : Hid _ := And.intro (allocB w4 (.cells #[.bool pgA.leaf, .slice a4 m4 c4, .slice d4 n4 f4, .slice g4 o4 h4] 26)) (B4.new w4 (.bool pgA.leaf) (.slice a4 m4 c4) (.slice d4 n4 f4) (.slice g4 o4 h4) 26)
  have D4 : Hid (Below w2.heap.size w2 w4) := nextB D3.out b4
  have E4 : Hid (Below w3.heap.size w3 w4) := b4
  clear P4' s4 b4 DP
  go_upto_region 4 with fail
  generalize (w4.alloc (.cells #[.bool pgA.leaf, .slice a4 m4 c4, .slice d4 n4 f4, .slice g4 o4 h4] 26)) = w5 at *
  have D5 : Hid (Below w2.heap.size w2 w5) := nextB D4.out A4.out.1
  have p0 := (C2.out.2.2.below D5.out).a0
  have p1 := (C2.out.2.2.below D5.out).a1
  have p2 := (C2.out.2.2.below D5.out).a2
  have p3 := (C2.out.2.2.below D5.out).a3
  go_wp2_with fail
  refine Calls.mono (fiA _ w5 (C2.out.2.1.below D5.out)) ?_
  rintro e w6 ⟨rfl, b6⟩
  have D6 : Hid (Below w2.heap.size w2 w6) := nextB D5.out b6
  have E6 : Hid (Below w4.heap.size w4 w6) := nextB A4.out.1 b6
  have B6 : Hid _ := b6
  clear p0 p1 p2 p3 b6
  have p0 := (C2.out.2.2.below D6.out).a0
  have p1 := (C2.out.2.2.below D6.out).a1
  have p2 := (C2.out.2.2.below D6.out).a2
  have p3 := (C2.out.2.2.below D6.out).a3
  go_wp2_with fail
  refine Calls.mono (puA _ w6 (C2.out.2.1.below D6.out)) ?_
  rintro e w7 ⟨⟨v7, rfl, P7'⟩, b7⟩
  obtain ⟨a7, m7, c7, d7, n7, f7, g7, o7, h7, rfl, s7, _, _⟩ := P7'.ex
  have P7 : Hid _ := P7'
  have A7 : Hid _ := And.intro (allocB w7 (.cells #[.bool pgR.leaf, .slice a7 m7 c7, .slice d7 n7 f7, .slice g7 o7 h7] 26)) (B4.new w7 (.bool pgR.leaf) (.slice a7 m7 c7) (.slice d7 n7 f7) (.slice g7 o7 h7) 26)
  have D7 : Hid (Below w5.heap.size w5 w7) := nextB B6.out b7
  have M7 : Hid (m7 = 2) := s7.len.symm
  clear P7' s7 b7 p0 p1 p2 p3
  go_upto_region 6 with fail
  generalize (w7.alloc (.cells #[.bool pgR.leaf, .slice a7 m7 c7, .slice d7 n7 f7, .slice g7 o7 h7] 26)) = w8 at *
  have D8 : Hid (Below w5.heap.size w5 w8) := nextB D7.out A7.out.1
  have p0 := A7.out.2.a0
  have p1 := A7.out.2.a1
  have p2 := A7.out.2.a2
  have p3 := A7.out.2.a3
  go_wp2_with fail
  refine Calls.mono (drR _ w8 (P7.out.below A7.out.1)) ?_
  rintro e w9 ⟨⟨v9, rfl, P9'⟩, b9⟩
  obtain ⟨a9, m9, c9, d9, n9, f9, g9, o9, h9, rfl, s9, _, _⟩ := P9'.ex
  obtain rfl : m9 = 1 := s9.len.symm
  obtain ⟨sb, so, rfl, _⟩ := s9.at (by decide)
  have K9 : Hid _ := s9
  have P9 : Hid _ := P9'
  have A9 : Hid _ := And.intro (allocB w9 (.cells #[.bool pgS.leaf, .slice (some ⟨sb, so, none⟩) 1 c9, .slice d9 n9 f9, .slice g9 o9 h9] 26)) (B4.new w9 (.bool pgS.leaf) (.slice (some ⟨sb, so, none⟩) 1 c9) (.slice d9 n9 f9) (.slice g9 o9 h9) 26)
  have E9 : Hid (Below w8.heap.size w8 w9) := b9
  clear P9' s9 b9 p0 p1 p2 p3
  go_upto_region 7 with fail
  generalize (w9.alloc (.cells #[.bool pgS.leaf, .slice (some ⟨sb, so, none⟩) 1 c9, .slice d9 n9 f9, .slice g9 o9 h9] 26)) = w10 at *
  have E10 : Hid (Below w8.heap.size w8 w10) := nextB E9.out A9.out.1
  have p0 := (A7.out.2.below E10.out).a0
  have p1 := (A7.out.2.below E10.out).a1
  have p2 := (A7.out.2.below E10.out).a2
  have p3 := (A7.out.2.below E10.out).a3
  go_wp2_with fail
  refine Calls.mono (spR _ w10 ((P7.out.below A7.out.1).below E10.out)) ?_
  rintro e w11 ⟨v11, u11, rfl, Px', Py', _, b11⟩
  obtain ⟨ax, mx, cx, dx, nx, fx, gx, ox, hx, rfl, sx, _, _⟩ := Px'.ex
  have Mx : Hid (mx = 1) := by show _ = _; have := sx.slen; rw [pgR_A] at this; exact this.symm
  obtain ⟨ay, my, cy, dy, ny, fy, gy, oy, hy, rfl, sy, _, _⟩ := Py'.ex
  have My : Hid (my = 1) := by show _ = _; have := sy.slen; rw [pgR_B] at this; exact this.symm
  have AX : Hid _ := And.intro (nextB (allocB w11 (.cells #[.bool (lfA pgR).leaf, .slice ax mx cx, .slice dx nx fx, .slice gx ox hx] 26)) (allocB _ (.cells #[.bool (lfB pgR).leaf, .slice ay my cy, .slice dy ny fy, .slice gy oy hy] 26))) (And.intro ((B4.new w11 (.bool (lfA pgR).leaf) (.slice ax mx cx) (.slice dx nx fx) (.slice gx ox hx) 26).below (allocB _ (.cells #[.bool (lfB pgR).leaf, .slice ay my cy, .slice dy ny fy, .slice gy oy hy] 26))) (B4.new (w11.alloc (.cells #[.bool (lfA pgR).leaf, .slice ax mx cx, .slice dx nx fx, .slice gx ox hx] 26)) (.bool (lfB pgR).leaf) (.slice ay my cy) (.slice dy ny fy) (.slice gy oy hy) 26))
  rw [World.size_alloc] at AX
  have E11 : Hid (Below w10.heap.size w10 w11) := b11
  clear Px' Py' sx sy b11 p0 p1 p2 p3
  go_upto_region 8 with fail
  have WX : Hid _ := AX.out.1
  have BX : Hid _ := AX.out.2.1
  have BY : Hid _ := AX.out.2.2
  clear AX
  generalize ((w11.alloc (.cells #[.bool (lfA pgR).leaf, .slice ax mx cx, .slice dx nx fx, .slice gx ox hx] 26)).alloc (.cells #[.bool (lfB pgR).leaf, .slice ay my cy, .slice dy ny fy, .slice gy oy hy] 26)) = w12 at *
  obtain rfl := M7.out
  obtain rfl := Mx.out
  obtain rfl := My.out
  have U10 : Hid (Below w10.heap.size w10 w12) := nextB E11.out WX.out
  have U9 : Hid (Below w9.heap.size w9 w12) := nextB A9.out.1 U10.out
  have U8 : Hid (Below w8.heap.size w8 w12) := nextB E9.out U9.out
  have U5 : Hid (Below w5.heap.size w5 w12) := nextB D8.out U8.out
  have U4 : Hid (Below w4.heap.size w4 w12) := nextB A4.out.1 U5.out
  have U3 : Hid (Below w3.heap.size w3 w12) := nextB E4.out U4.out
  have U2 : Hid (Below w2.heap.size w2 w12) := nextB D5.out U5.out
  have SS : Hid (∀ W, Below w12.heap.size w12 W → (convert 30 9 (.slice ba 6 bc)).run Try.prog W = .ok (.string ⟨#[76, 1, 1, 97, 1, 49]⟩) W ∧ W.cell? ⟨w4.heap.size, 0, none⟩ = some (.bool pgA.leaf) ∧ W.cell? ⟨w4.heap.size, 1, none⟩ = some (.slice a4 m4 c4) ∧ W.cell? ⟨w4.heap.size, 2, none⟩ = some (.slice d4 n4 f4) ∧ W.cell? ⟨w4.heap.size, 3, none⟩ = some (.slice g4 o4 h4) ∧ W.cell? ⟨w.heap.size + 1 + 1, 0, none⟩ = some (.bool true) ∧ W.cell? ⟨w.heap.size + 1 + 1, 1, none⟩ = some (.slice (some ⟨w.heap.size, 0, none⟩) 1 1) ∧ W.cell? ⟨w.heap.size + 1 + 1, 2, none⟩ = some (.slice (some ⟨w.heap.size + 1, 0, none⟩) 1 1) ∧ W.cell? ⟨w.heap.size + 1 + 1, 3, none⟩ = some (.slice none 0 0) ∧ W.cell? ⟨w7.heap.size, 1, none⟩ = some (.slice a7 2 c7) ∧ W.cell? ⟨w9.heap.size, 1, none⟩ = some (.slice (some ⟨sb, so, none⟩) 1 c9) ∧ W.cell? ⟨sb, so, none⟩ = some (.string ⟨#[98]⟩) ∧ W.cell? ⟨w11.heap.size, 1, none⟩ = some (.slice ax 1 cx) ∧ W.cell? ⟨w11.heap.size + 1, 1, none⟩ = some (.slice ay 1 cy)) := fun W b => by
    have q := (A4.out.2.below U5.out).below b
    have p := (C2.out.2.2.below U2.out).below b
    have k : W.cell? ⟨sb, so + 0, none⟩ = some (.string (kAt pgS.keys 0)) := ((K9.out.below U9.out).below b).str (by decide)
    exact ⟨((C3.out.below U3.out).below b).str, q.a0, q.a1, q.a2, q.a3, p.a0, p.a1, p.a2, p.a3, ((A7.out.2.below U8.out).below b).a1, ((A9.out.2.below U10.out).below b).a1, k, (BX.out.below b).a1, (BY.out.below b).a1⟩
  have PP : Hid (∀ W, Below w12.heap.size w12 W → Pv W (.agg #[.bool true, .slice (some ⟨w.heap.size, 0, none⟩) 1 1, .slice (some ⟨w.heap.size + 1, 0, none⟩) 1 1, .slice none 0 0]) pgA) := fun W b => (C2.out.2.1.below U2.out).below b
  have PQ : Hid (∀ W, Below w12.heap.size w12 W → Pv W (.agg #[.bool pgA.leaf, .slice a4 m4 c4, .slice d4 n4 f4, .slice g4 o4 h4]) pgA) := fun W b => (P4.out.below U4.out).below b
  have UW : Hid (Below w.heap.size w w12) := nextB C2.out.1 U2.out
  have K1 : Hid _ := fun (W : World) (b : Below w12.heap.size w12 W) => own_page _ pgA W (PP.out W b) pgA_fit.bd
  have K2 : Hid _ := fun (W : World) (b : Below w12.heap.size w12 W) (u : Value) (h : Pv W u pgA) => same_any _ u pgA W (PQ.out W b) h pgA_fit.bd
  have K3 : Hid _ := fun (W : World) (b : Below w12.heap.size w12 W) => goA _ W (PP.out W b)
  have K4 : Hid _ := fun (W : World) (b : Below w12.heap.size w12 W) => byA _ W (PP.out W b)
  have S0 := SS.out w12.drew (Below.refl _ _).drew
  simp only [List.append]
  clear A4 A7 A9 C2 C3 K9 BX BY P4 P7 P9 D4 E4 D5 D6 E6 B6 D7 D8 E9 E10 E11 WX U10 U9 U8 U5 U4 U3 U2 X3 D3 M7 Mx My PP PQ
  go_region_held3 (fun W => (convert 30 9 (.slice ba 6 bc)).run Try.prog W = .ok (.string ⟨#[76, 1, 1, 97, 1, 49]⟩) W ∧ W.cell? ⟨w4.heap.size, 0, none⟩ = some (.bool pgA.leaf) ∧ W.cell? ⟨w4.heap.size, 1, none⟩ = some (.slice a4 m4 c4) ∧ W.cell? ⟨w4.heap.size, 2, none⟩ = some (.slice d4 n4 f4) ∧ W.cell? ⟨w4.heap.size, 3, none⟩ = some (.slice g4 o4 h4) ∧ W.cell? ⟨w.heap.size + 1 + 1, 0, none⟩ = some (.bool true) ∧ W.cell? ⟨w.heap.size + 1 + 1, 1, none⟩ = some (.slice (some ⟨w.heap.size, 0, none⟩) 1 1) ∧ W.cell? ⟨w.heap.size + 1 + 1, 2, none⟩ = some (.slice (some ⟨w.heap.size + 1, 0, none⟩) 1 1) ∧ W.cell? ⟨w.heap.size + 1 + 1, 3, none⟩ = some (.slice none 0 0) ∧ W.cell? ⟨w7.heap.size, 1, none⟩ = some (.slice a7 2 c7) ∧ W.cell? ⟨w9.heap.size, 1, none⟩ = some (.slice (some ⟨sb, so, none⟩) 1 c9) ∧ W.cell? ⟨sb, so, none⟩ = some (.string ⟨#[98]⟩) ∧ W.cell? ⟨w11.heap.size, 1, none⟩ = some (.slice ax 1 cx) ∧ W.cell? ⟨w11.heap.size + 1, 1, none⟩ = some (.slice ay 1 cy)) (first | with_reducible assumption | exact SS.out _ (nextB (nextB B4'.out (allocB _ _)) (allocB _ _)) | exact SS.out _ (nextB B4'.out (allocB _ _))) (first | (go_at_call 14; refine Calls.mono (K1.out _ (Below.refl _ _).drew) ?_; rintro e w13 ⟨⟨v13, rfl, P13⟩, b13⟩; have B1' : Hid _ := nextB (Below.refl _ _).drew b13; have S1 := SS.out w13 B1'.out; have P13' : Hid _ := P13; clear K1 P13) | (go_at_call 19; refine Calls.mono (K2.out _ B1'.out _ P13'.out) ?_; rintro e w14 ⟨rfl, b14⟩; have B2' : Hid _ := nextB B1'.out b14; have S2 := SS.out w14 B2'.out; clear K2) | (go_at_call 12; refine Calls.mono (K3.out _ B2'.out) ?_; rintro e w15 ⟨rfl, b15⟩; have B3' : Hid _ := nextB B2'.out b15; have S3 := SS.out w15 B3'.out; clear K3) | (go_at_call 18; refine Calls.mono (K4.out _ B3'.out) ?_; rintro e w16 ⟨rfl, b16⟩; have B4' : Hid _ := nextB B3'.out b16; have S4 := SS.out w16 B4'.out; clear K4) | (go_at_call 22; refine Calls.mono (kiM _ _ (by first | exact pvM1 _ | exact pvM2 _)) ?_; rintro e w17 ⟨rfl, b17⟩; have B5' : Hid (Below w12.heap.size w12 w17) := nextB (nextB (nextB B4'.out (allocB _ _)) (allocB _ _)) b17; have S5 := SS.out w17 B5'.out))
  all_goals go_wp2
  all_goals exact bodyPost_ret (v := .bool true) (by simp [results, Try.results9, go_sem]) rfl ⟨rfl, nextB UW.out B5'.out⟩
end Go.Proofs.Ytfedcghkohfhlaa
