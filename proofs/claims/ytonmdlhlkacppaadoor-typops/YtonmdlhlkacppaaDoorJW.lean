/- The walk over TypOps. -/
import Derived.Test.YtonmdlhlkacppaaDoorJV
import Derived.BigQuiet
import Derived.Deep.RegionHeld3
namespace Go.Proofs.YtonmdlhlkacppaaDoor
open Go.RowKit
set_option linter.unusedVariables false
set_option linter.unusedSimpArgs false

theorem opN_sz (i : Nat) (h : i < 14) : (opN i).size ≤ 10 := by
  match i, h with
  | 0, _ => decide
  | 1, _ => decide
  | 2, _ => decide
  | 3, _ => decide
  | 4, _ => decide
  | 5, _ => decide
  | 6, _ => decide
  | 7, _ => decide
  | 8, _ => decide
  | 9, _ => decide
  | 10, _ => decide
  | 11, _ => decide
  | 12, _ => decide
  | 13, _ => decide
  | n + 14, h => omega
theorem kdN_sz (i : Nat) (h : i < 7) : (kdN i).size ≤ 10 := by
  match i, h with
  | 0, _ => decide
  | 1, _ => decide
  | 2, _ => decide
  | 3, _ => decide
  | 4, _ => decide
  | 5, _ => decide
  | 6, _ => decide
  | n + 7, h => omega
theorem rul_kidO {k : Tr} (h : GD k) (ho : eqB k.op ⟨#[114, 117, 108, 101]⟩ = true) : ∃ e, k.kids = [e] ∧ GE 40 e := by
  cases h with
  | inp nm kind a h1 h6 => cases ho
  | rul nm kind a e h1 h6 he => exact ⟨e, rfl, he⟩
  | tab nm kind kk a rs l h1 h6 k1 k6 hl hr hz => cases ho
theorem Nd.thirdO {w : World} {S : Nat → Prop} {v : Value} {x y z : Tr} (h : Nd w S v [x, y, z]) : ∃ (g c : Nat) (sz : Value), v = .slice (some ⟨g, 0, none⟩) 3 c ∧ NC w g 12 z sz ∧ Nd w S sz z.kids := by
  cases h with
  | row g c ts sl hs h0 hc hk => exact ⟨g, c, sl 2, rfl, hc 2 z rfl, hk 2 z rfl⟩
theorem Nd.oneO {w : World} {S : Nat → Prop} {v : Value} {x : Tr} (h : Nd w S v [x]) : ∃ (g c : Nat) (sx : Value), v = .slice (some ⟨g, 0, none⟩) 1 c ∧ NC w g 0 x sx ∧ Nd w S sx x.kids := by
  cases h with
  | row g c ts sl hs h0 hc hk => exact ⟨g, c, sl 0, rfl, hc 0 x rfl, hk 0 x rfl⟩
set_option maxRecDepth 100000 in
set_option maxHeartbeats 8000000 in
theorem ops_walk (w : World) (hT : TabM w) (op a b : Int) : Calls Tryd.prog 5 #[.int .i64 op, .int .i64 a, .int .i64 b] w fun e w' => e = .returned (.bool true) ∧ Below w.heap.size w w' := by
  have KA := hid (awake_any w hT)
  have HT := hid hT
  clear hT
  by_cases q1 : op < 0
  · go_enter Tryd.func5, Tryd.ntmps5
    go_upto_region 3 with (go_at_call 8; (with_reducible refine Calls.mono KA.out ?_); rintro e w4 ⟨rfl, b4⟩; have B4 := hid b4; clear b4)
    go_wp2_with fail
    go_returns
    exact ⟨rfl, nextB B4.out ((Below.refl _ _).alloc (Nat.le_refl _) _)⟩
  by_cases q2 : 13 < op
  · go_enter Tryd.func5, Tryd.ntmps5
    go_upto_region 3 with (go_at_call 8; (with_reducible refine Calls.mono KA.out ?_); rintro e w4 ⟨rfl, b4⟩; have B4 := hid b4; clear b4)
    go_wp2_with fail
    go_returns
    exact ⟨rfl, nextB B4.out ((Below.refl _ _).alloc (Nat.le_refl _) _)⟩
  by_cases q3 : a < 1
  · go_enter Tryd.func5, Tryd.ntmps5
    go_upto_region 3 with (go_at_call 8; (with_reducible refine Calls.mono KA.out ?_); rintro e w4 ⟨rfl, b4⟩; have B4 := hid b4; clear b4)
    go_wp2_with fail
    go_returns
    exact ⟨rfl, nextB B4.out ((Below.refl _ _).alloc (Nat.le_refl _) _)⟩
  by_cases q4 : 6 < a
  · go_enter Tryd.func5, Tryd.ntmps5
    go_upto_region 3 with (go_at_call 8; (with_reducible refine Calls.mono KA.out ?_); rintro e w4 ⟨rfl, b4⟩; have B4 := hid b4; clear b4)
    go_wp2_with fail
    go_returns
    exact ⟨rfl, nextB B4.out ((Below.refl _ _).alloc (Nat.le_refl _) _)⟩
  by_cases q5 : b < 1
  · go_enter Tryd.func5, Tryd.ntmps5
    go_upto_region 3 with (go_at_call 8; (with_reducible refine Calls.mono KA.out ?_); rintro e w4 ⟨rfl, b4⟩; have B4 := hid b4; clear b4)
    go_wp2_with fail
    go_returns
    exact ⟨rfl, nextB B4.out ((Below.refl _ _).alloc (Nat.le_refl _) _)⟩
  by_cases q6 : 6 < b
  · go_enter Tryd.func5, Tryd.ntmps5
    go_upto_region 3 with (go_at_call 8; (with_reducible refine Calls.mono KA.out ?_); rintro e w4 ⟨rfl, b4⟩; have B4 := hid b4; clear b4)
    go_wp2_with fail
    go_returns
    exact ⟨rfl, nextB B4.out ((Below.refl _ _).alloc (Nat.le_refl _) _)⟩
  obtain ⟨i, rfl⟩ : ∃ i : Nat, op = i := ⟨op.toNat, by omega⟩
  obtain ⟨a, rfl⟩ : ∃ x : Nat, a = x := ⟨a.toNat, by omega⟩
  obtain ⟨b, rfl⟩ : ∃ x : Nat, b = x := ⟨b.toNat, by omega⟩
  obtain ⟨ho, hs, k0, k1, k2, e, ek, ee, eo, ec⟩ := ckO_is (ckO_all i a b (by omega) (by omega) (by omega) (by omega) (by omega))
  have GD2 := hid (good_tr ho)
  have LN := hid (len_tr (t := tOx (sO i) (kdN a) (kdN b)) hs)
  have K2 := hid (fun W => read_any (tOx (sO i) (kdN a) (kdN b)) W hs)
  unfold RdX at K2
  simp only [ho] at K2
  have KNA := hid (fun W => kname_any a (by omega) (by omega) W)
  have KNB := hid (fun W => kname_any b (by omega) (by omega) W)
  have MEM := hid (opN_mem i (by omega))
  have zn := opN_sz i (by omega)
  have za := kdN_sz a (by omega)
  have zb := kdN_sz b (by omega)
  have C12 := hid (fun W (h : i < 12) => cell12 W i h)
  have SO := hid (show sO i = if i < 12 then ⟨#[120, 32]⟩ ++ opN i ++ ⟨#[32, 121]⟩ else opN i ++ ⟨#[40, 120, 44, 32, 121, 41]⟩ from rfl)
  have GE4 := hid (show GE 40 e from by
    obtain ⟨e', h1, h2⟩ := rul_kidO (GD2.out.2 k2 (by rw [ek]; simp)) eo
    rw [ee] at h1
    injection h1 with h1
    rw [h1]
    exact h2)
  have EK := hid ek
  have EE := hid ee
  have RE := hid ec
  have zst : ((trX (tOx (sO i) (kdN a) (kdN b))).op.toList == [115, 116, 97, 116, 117, 116, 101]) = true := by rw [GD2.out.1]; exact (eqL _ _).trans rfl
  generalize trX (tOx (sO i) (kdN a) (kdN b)) = t at *
  unfold tOx at K2
  clear ho hs ek ee eo ec
  by_cases q : i < 12
  · have q' : (i : Int) < 12 := by omega
    have SE := hid (show sO i = ⟨#[120, 32]⟩ ++ opN i ++ ⟨#[32, 121]⟩ from by rw [SO.out, if_pos q])
    rw [SE.out] at K2
    have KB := hid (fun W => binary_any (opN i) MEM.out (a : Nat) (b : Nat) W)
    have CC := hid (fun W => C12.out W q)
    generalize kdN a = ka at *
    generalize kdN b = kb at *
    generalize opN i = nm at *
    clear SO SE C12 MEM q
    go_enter Tryd.func5, Tryd.ntmps5
    go_upto_region 3 with (go_at_call 8; (with_reducible refine Calls.mono KA.out ?_); rintro e w4 ⟨rfl, b4⟩; have B4 := hid b4; clear b4)
    have c12 := CC.out w4
    have B0 := hid (nextB B4.out (show Below w4.heap.size w4 (w4.alloc (.cells #[.string ⟨#[43]⟩, .string ⟨#[45]⟩, .string ⟨#[42]⟩, .string ⟨#[47]⟩, .string ⟨#[60]⟩, .string ⟨#[60, 61]⟩, .string ⟨#[62]⟩, .string ⟨#[62, 61]⟩, .string ⟨#[61, 61]⟩, .string ⟨#[33, 61]⟩, .string ⟨#[97, 110, 100]⟩, .string ⟨#[111, 114]⟩] 9)) from (Below.refl _ _).alloc (Nat.le_refl _) _))
    go_upto_region 12 with fail
    clear c12
    generalize World.alloc w4 _ = wn at *
    go_upto_region 13 with (first | (go_at_call 17; (with_reducible refine Calls.mono (KNA.out _) ?_); rintro e wk1 ⟨rfl, bk1⟩; have BK1 := hid bk1; clear bk1) | (go_at_call 17; (with_reducible refine Calls.mono (KNB.out _) ?_); rintro e wk2 ⟨rfl, bk2⟩; have BK2 := hid bk2; clear bk2) | (go_at_call 9; (with_reducible refine Calls.mono (K2.out _) ?_); rintro e w5 ⟨b5, sa5, sb5, sm5, sc5, sn5, sd5, rfl, n5, m5⟩; have B5 := hid b5; have N5 := hid n5; have M5 := hid m5; clear b5 n5 m5))
    have A6 := hid (show Below w5.heap.size w5 ((w5.alloc (.cells #[.string t.op, .string t.name, .int .i64 (t.kind : Nat), .int .i64 t.n, .int .i64 (t.pl : Nat), .slice sa5 sm5 sc5] 26)).alloc (.cells #[.string t.op, .string t.name, .int .i64 (t.kind : Nat), .int .i64 t.n, .int .i64 (t.pl : Nat), .slice sb5 sn5 sd5] 29)) from ((Below.refl _ _).alloc (Nat.le_refl _) _).alloc (by simp) _)
    have P6 := hid (nextB (nextB (nextB (nextB B0.out BK1.out) BK2.out) B5.out) A6.out)
    have X6 := hid (show B6 ((w5.alloc (.cells #[.string t.op, .string t.name, .int .i64 (t.kind : Nat), .int .i64 t.n, .int .i64 (t.pl : Nat), .slice sa5 sm5 sc5] 26)).alloc (.cells #[.string t.op, .string t.name, .int .i64 (t.kind : Nat), .int .i64 t.n, .int .i64 (t.pl : Nat), .slice sb5 sn5 sd5] 29)) w5.heap.size (.string t.op) (.string t.name) (.int .i64 (t.kind : Nat)) (.int .i64 t.n) (.int .i64 (t.pl : Nat)) (.slice sa5 sm5 sc5) from (B6.new w5 26 _ _ _ _ _ _).next ((Below.refl _ _).alloc (Nat.le_refl _) _))
    have Y6 := hid (show B6 ((w5.alloc (.cells #[.string t.op, .string t.name, .int .i64 (t.kind : Nat), .int .i64 t.n, .int .i64 (t.pl : Nat), .slice sa5 sm5 sc5] 26)).alloc (.cells #[.string t.op, .string t.name, .int .i64 (t.kind : Nat), .int .i64 t.n, .int .i64 (t.pl : Nat), .slice sb5 sn5 sd5] 29)) (w5.heap.size + 1) (.string t.op) (.string t.name) (.int .i64 (t.kind : Nat)) (.int .i64 t.n) (.int .i64 (t.pl : Nat)) (.slice sb5 sn5 sd5) from by have q := B6.new (w5.alloc (.cells #[.string t.op, .string t.name, .int .i64 (t.kind : Nat), .int .i64 t.n, .int .i64 (t.pl : Nat), .slice sa5 sm5 sc5] 26)) 29 (.string t.op) (.string t.name) (.int .i64 (t.kind : Nat)) (.int .i64 t.n) (.int .i64 (t.pl : Nat)) (.slice sb5 sn5 sd5); rw [show (w5.alloc (.cells #[.string t.op, .string t.name, .int .i64 (t.kind : Nat), .int .i64 t.n, .int .i64 (t.pl : Nat), .slice sa5 sm5 sc5] 26)).heap.size = w5.heap.size + 1 by simp] at q; exact q)
    have N6 := hid (N5.out.gwY A6.out)
    clear N5 M5 B5 A6 K2 KNA KNB
    generalize World.alloc (World.alloc w5 _) _ = w6 at *
    generalize w5.heap.size + 1 = qw at *
    generalize w5.heap.size = qn at *
    obtain ⟨gn, cn, sz, esl, ncz, nkz⟩ := Nd.thirdO (show Nd w6 _ (.slice sa5 sm5 sc5) [k0, k1, k2] from by rw [← EK.out]; exact N6.out)
    injection esl with es1 es2 es3
    subst es1 es2 es3
    have nk2 := nkz
    rw [EE.out] at nk2
    obtain ⟨g2, c2, se, rfl, nce, nde⟩ := nk2.oneO
    obtain ⟨ea, em, ec, rfl⟩ := nde.slice
    have p5 := ncz.e5
    obtain ⟨e0, e1, e2, e3, e4, e5⟩ := nce
    simp only [Nat.zero_add, Nat.reduceAdd] at p5 e1 e2 e3 e4 e5
    have NDE := hid nde
    have KO := hid (fun W (b : Below w6.heap.size w6 W) => Of_any t e _ _ W _ _ (N6.out.gwY b) GD2.out.2 LN.out [] none 0 (fun i x hx => by simp at hx) (by simp) 40 GE4.out (by decide) (NDE.out.gwY b) (HT.out.next (nextB P6.out b)))
    simp only [List.length_nil] at KO
    rw [RE.out] at KO
    generalize binK nm (a : Nat) (b : Nat) = R1 at *
    clear ncz nkz nk2 nde
    go_upto_region 15 with fail
    refine wp_region_held_drew (S := fun W => Below w6.heap.size w6 W) (by kernel_rfl) (Below.refl _ _).drew (fun hHeld => ?_)
    refine take2 rfl (i := 0) (v := .agg #[.string t.op, .string t.name, .int .i64 (t.kind : Nat), .int .i64 t.n, .int .i64 (t.pl : Nat), .slice (some ⟨gn, 0, none⟩) 3 sc5]) (d := 72) rfl rfl (by kernel_rfl) (by kernel_rfl) (by kernel_rfl) (fun _ _ _ h => h) (Or.inl ⟨by rfl, ?_⟩) hHeld ?_
    · (intro W hW; (try dsimp only at hW); obtain ⟨c0, c1, c2, c3, c4, c5, _⟩ := X6.out.next hW; go_simp)
    try simp only [Act.put, List.setIfInBounds_toArray, List.set_cons_zero, List.set_cons_succ]
    refine take2 rfl (i := 1) (v := .pointer (some ⟨qn, 5, none⟩)) (d := 73) rfl rfl (by kernel_rfl) (by kernel_rfl) (by kernel_rfl) (fun _ _ _ h => h) (Or.inl ⟨by rfl, ?_⟩) hHeld ?_
    · (intro W hW; (try dsimp only at hW); go_simp)
    try simp only [Act.put, List.setIfInBounds_toArray, List.set_cons_zero, List.set_cons_succ]
    refine take2 rfl (i := 2) (v := .slice (some ⟨gn, 0, none⟩) 3 sc5) (d := 74) rfl rfl (by kernel_rfl) (by kernel_rfl) (by kernel_rfl) (fun _ _ _ h => h) (Or.inl ⟨by rfl, ?_⟩) hHeld ?_
    · (intro W hW; (try dsimp only at hW); have c1 := (X6.out.next hW).c5; go_simp)
    try simp only [Act.put, List.setIfInBounds_toArray, List.set_cons_zero, List.set_cons_succ]
    refine take2 rfl (i := 3) (v := .pointer (some ⟨gn, 12, none⟩)) (d := 75) rfl rfl (by kernel_rfl) (by kernel_rfl) (by kernel_rfl) (fun _ _ _ h => h) (Or.inl ⟨by rfl, ?_⟩) hHeld ?_
    · (intro W hW; (try dsimp only at hW); go_simp)
    try simp only [Act.put, List.setIfInBounds_toArray, List.set_cons_zero, List.set_cons_succ]
    refine take2 rfl (i := 4) (v := .pointer (some ⟨gn, 17, none⟩)) (d := 76) rfl rfl (by kernel_rfl) (by kernel_rfl) (by kernel_rfl) (fun _ _ _ h => h) (Or.inl ⟨by rfl, ?_⟩) hHeld ?_
    · (intro W hW; (try dsimp only at hW); go_simp)
    try simp only [Act.put, List.setIfInBounds_toArray, List.set_cons_zero, List.set_cons_succ]
    refine take2 rfl (i := 5) (v := .slice (some ⟨g2, 0, none⟩) 1 c2) (d := 77) rfl rfl (by kernel_rfl) (by kernel_rfl) (by kernel_rfl) (fun _ _ _ h => h) (Or.inl ⟨by rfl, ?_⟩) hHeld ?_
    · (intro W hW; (try dsimp only at hW); have c1 := (World.cell?_of_block (hW.block _ (World.block_lt_of_cell? _ _ p5))).trans p5; go_simp)
    try simp only [Act.put, List.setIfInBounds_toArray, List.set_cons_zero, List.set_cons_succ]
    refine take2 rfl (i := 6) (v := .pointer (some ⟨g2, 0, none⟩)) (d := 78) rfl rfl (by kernel_rfl) (by kernel_rfl) (by kernel_rfl) (fun _ _ _ h => h) (Or.inl ⟨by rfl, ?_⟩) hHeld ?_
    · (intro W hW; (try dsimp only at hW); go_simp)
    try simp only [Act.put, List.setIfInBounds_toArray, List.set_cons_zero, List.set_cons_succ]
    refine take2 rfl (i := 7) (v := .agg #[.string e.op, .string e.name, .int .i64 (e.kind : Nat), .int .i64 e.n, .int .i64 (e.pl : Nat), .slice ea em ec]) (d := 79) rfl rfl (by kernel_rfl) (by kernel_rfl) (by kernel_rfl) (fun _ _ _ h => h) (Or.inl ⟨by rfl, ?_⟩) hHeld ?_
    · (intro W hW; (try dsimp only at hW); have d0 := (World.cell?_of_block (hW.block _ (World.block_lt_of_cell? _ _ e0))).trans e0; have d1 := (World.cell?_of_block (hW.block _ (World.block_lt_of_cell? _ _ e1))).trans e1; have d2 := (World.cell?_of_block (hW.block _ (World.block_lt_of_cell? _ _ e2))).trans e2; have d3 := (World.cell?_of_block (hW.block _ (World.block_lt_of_cell? _ _ e3))).trans e3; have d4 := (World.cell?_of_block (hW.block _ (World.block_lt_of_cell? _ _ e4))).trans e4; have d5 := (World.cell?_of_block (hW.block _ (World.block_lt_of_cell? _ _ e5))).trans e5; go_simp)
    try simp only [Act.put, List.setIfInBounds_toArray, List.set_cons_zero, List.set_cons_succ]
    refine take2 rfl (i := 9) (v := .string nm) (d := 81) rfl rfl (by kernel_rfl) (by kernel_rfl) (by kernel_rfl) (fun _ _ _ h => h) (Or.inl ⟨by rfl, ?_⟩) hHeld ?_
    · (intro W hW; (try dsimp only at hW); go_simp)
    try simp only [Act.put, List.setIfInBounds_toArray, List.set_cons_zero, List.set_cons_succ]
    refine take2 rfl (i := 10) (v := .int .i64 (a : Nat)) (d := 82) rfl rfl (by kernel_rfl) (by kernel_rfl) (by kernel_rfl) (fun _ _ _ h => h) (Or.inl ⟨by rfl, ?_⟩) hHeld ?_
    · (intro W hW; (try dsimp only at hW); go_simp)
    try simp only [Act.put, List.setIfInBounds_toArray, List.set_cons_zero, List.set_cons_succ]
    refine take2 rfl (i := 11) (v := .int .i64 (b : Nat)) (d := 83) rfl rfl (by kernel_rfl) (by kernel_rfl) (by kernel_rfl) (fun _ _ _ h => h) (Or.inl ⟨by rfl, ?_⟩) hHeld ?_
    · (intro W hW; (try dsimp only at hW); go_simp)
    try simp only [Act.put, List.setIfInBounds_toArray, List.set_cons_zero, List.set_cons_succ]
    have BZ := hid (show Below w6.heap.size w6 w6.drew from (Below.refl _ _).drew)
    generalize w6.drew = wz at *
    refine wpAnyH_ready (rs := [8]) (by kernel_rfl) (by simp) ?_
    refine cons2 rfl rfl (fun K9 hK => ?_)
    go_simp
    refine Calls.mono (KO.out _ BZ.out) ?_
    rintro x w8 ⟨rfl, b8⟩
    have B8 := hid (nextB BZ.out b8)
    clear b8
    go_wp2_with fail
    refine hK.out _ _ B8.out (fun hX => ?_)
    clear hK K9 hHeld
    have hHeld := hX
    clear hX
    try simp only [Act.put, List.setIfInBounds_toArray, List.set_cons_zero, List.set_cons_succ]
    refine wpAnyH_ready (rs := [12]) (by kernel_rfl) (by simp) ?_
    refine cons2 rfl rfl (fun K9 hK => ?_)
    go_simp
    refine Calls.mono (KB.out _) ?_
    rintro x w9 ⟨rfl, rfl⟩
    go_wp2_with fail
    refine hK.out _ _ B8.out (fun hX => ?_)
    clear hK K9 hHeld
    have hHeld := hX
    clear hX
    try simp only [Act.put, List.setIfInBounds_toArray, List.set_cons_zero, List.set_cons_succ]
    refine take2 rfl (i := 13) (v := .bool true) (d := 85) rfl rfl (by kernel_rfl) (by kernel_rfl) (by kernel_rfl) (fun _ _ _ h => h) (Or.inl ⟨by rfl, ?_⟩) hHeld ?_
    · (intro W hW; (try dsimp only at hW); go_simp)
    try simp only [Act.put, List.setIfInBounds_toArray, List.set_cons_zero, List.set_cons_succ]
    refine take2 rfl (i := 14) (v := .bool true) (d := 86) rfl rfl (by kernel_rfl) (by kernel_rfl) (by kernel_rfl) (fun _ _ _ h => h) (Or.inl ⟨by rfl, ?_⟩) hHeld ?_
    · (intro W hW; (try dsimp only at hW); go_simp)
    try simp only [Act.put, List.setIfInBounds_toArray, List.set_cons_zero, List.set_cons_succ]
    refine take2 rfl (i := 15) (v := .pointer (some ⟨qw, 0, none⟩)) (d := 87) rfl rfl (by kernel_rfl) (by kernel_rfl) (by kernel_rfl) (fun _ _ _ h => h) (Or.inl ⟨by rfl, ?_⟩) hHeld ?_
    · (intro W hW; (try dsimp only at hW); go_simp)
    try simp only [Act.put, List.setIfInBounds_toArray, List.set_cons_zero, List.set_cons_succ]
    refine take2 rfl (i := 16) (v := .string t.op) (d := 88) rfl rfl (by kernel_rfl) (by kernel_rfl) (by kernel_rfl) (fun _ _ _ h => h) (Or.inl ⟨by rfl, ?_⟩) hHeld ?_
    · (intro W hW; (try dsimp only at hW); have c1 := (Y6.out.next hW).c0; go_simp)
    try simp only [Act.put, List.setIfInBounds_toArray, List.set_cons_zero, List.set_cons_succ]
    refine take2 rfl (i := 17) (v := .bool true) (d := 89) rfl rfl (by kernel_rfl) (by kernel_rfl) (by kernel_rfl) (fun _ _ _ h => h) (Or.inl ⟨by rfl, ?_⟩) hHeld ?_
    · (intro W hW; (try dsimp only at hW); go_simp)
    try simp only [Act.put, List.setIfInBounds_toArray, List.set_cons_zero, List.set_cons_succ]
    refine take2 rfl (i := 18) (v := .bool true) (d := 90) rfl rfl (by kernel_rfl) (by kernel_rfl) (by kernel_rfl) (fun _ _ _ h => h) (Or.inl ⟨by rfl, ?_⟩) hHeld ?_
    · (intro W hW; (try dsimp only at hW); go_simp)
    try simp only [Act.put, List.setIfInBounds_toArray, List.set_cons_zero, List.set_cons_succ]
    refine take2 rfl (i := 19) (v := .bool true) (d := 6) rfl rfl (by kernel_rfl) (by kernel_rfl) (by kernel_rfl) (fun _ _ _ h => h) (Or.inl ⟨by rfl, ?_⟩) hHeld ?_
    · (intro W hW; (try dsimp only at hW); go_simp)
    try simp only [Act.put, List.setIfInBounds_toArray, List.set_cons_zero, List.set_cons_succ]
    refine wpAnyH_done (by kernel_rfl) ?_ _
    go_wp2_with fail
    go_returns
    exact ⟨rfl, nextB P6.out B8.out⟩
  · have q' : ¬ (i : Int) < 12 := by omega
    obtain ⟨j, rfl⟩ : ∃ j, i = j + 12 := ⟨i - 12, by omega⟩
    have SE := hid (show sO (j + 12) = opN (j + 12) ++ ⟨#[40, 120, 44, 32, 121, 41]⟩ from by rw [SO.out, if_neg q])
    rw [SE.out] at K2
    have KB := hid (fun W => binary_any (opN (j + 12)) MEM.out (a : Nat) (b : Nat) W)
    have CC := hid (fun W => cell2 W j (by omega))
    have jz : (j : Int) < 2 := by omega
    have jw : IntKind.i64.wrap ((j : Int) + 12 - 12) = (j : Int) := by go_arith
    generalize kdN a = ka at *
    generalize kdN b = kb at *
    generalize opN (j + 12) = nm at *
    clear SO SE C12 MEM q
    go_enter Tryd.func5, Tryd.ntmps5
    go_upto_region 3 with (go_at_call 8; (with_reducible refine Calls.mono KA.out ?_); rintro e w4 ⟨rfl, b4⟩; have B4 := hid b4; clear b4)
    have B0 := hid (nextB B4.out (show Below w4.heap.size w4 (w4.alloc (.cells #[.string ⟨#[43]⟩, .string ⟨#[45]⟩, .string ⟨#[42]⟩, .string ⟨#[47]⟩, .string ⟨#[60]⟩, .string ⟨#[60, 61]⟩, .string ⟨#[62]⟩, .string ⟨#[62, 61]⟩, .string ⟨#[61, 61]⟩, .string ⟨#[33, 61]⟩, .string ⟨#[97, 110, 100]⟩, .string ⟨#[111, 114]⟩] 9)) from (Below.refl _ _).alloc (Nat.le_refl _) _))
    go_upto_region 10 with fail
    generalize World.alloc w4 _ = wm at *
    have c2 := CC.out wm
    have B1 := hid (nextB B0.out (show Below wm.heap.size wm (wm.alloc (.cells #[.string ⟨#[109, 105, 110]⟩, .string ⟨#[109, 97, 120]⟩] 9)) from (Below.refl _ _).alloc (Nat.le_refl _) _))
    go_upto_region 12 with fail
    clear c2
    generalize World.alloc wm _ = wn at *
    go_upto_region 13 with (first | (go_at_call 17; (with_reducible refine Calls.mono (KNA.out _) ?_); rintro e wk1 ⟨rfl, bk1⟩; have BK1 := hid bk1; clear bk1) | (go_at_call 17; (with_reducible refine Calls.mono (KNB.out _) ?_); rintro e wk2 ⟨rfl, bk2⟩; have BK2 := hid bk2; clear bk2) | (go_at_call 9; (with_reducible refine Calls.mono (K2.out _) ?_); rintro e w5 ⟨b5, sa5, sb5, sm5, sc5, sn5, sd5, rfl, n5, m5⟩; have B5 := hid b5; have N5 := hid n5; have M5 := hid m5; clear b5 n5 m5))
    have A6 := hid (show Below w5.heap.size w5 ((w5.alloc (.cells #[.string t.op, .string t.name, .int .i64 (t.kind : Nat), .int .i64 t.n, .int .i64 (t.pl : Nat), .slice sa5 sm5 sc5] 26)).alloc (.cells #[.string t.op, .string t.name, .int .i64 (t.kind : Nat), .int .i64 t.n, .int .i64 (t.pl : Nat), .slice sb5 sn5 sd5] 29)) from ((Below.refl _ _).alloc (Nat.le_refl _) _).alloc (by simp) _)
    have P6 := hid (nextB (nextB (nextB (nextB B1.out BK1.out) BK2.out) B5.out) A6.out)
    have X6 := hid (show B6 ((w5.alloc (.cells #[.string t.op, .string t.name, .int .i64 (t.kind : Nat), .int .i64 t.n, .int .i64 (t.pl : Nat), .slice sa5 sm5 sc5] 26)).alloc (.cells #[.string t.op, .string t.name, .int .i64 (t.kind : Nat), .int .i64 t.n, .int .i64 (t.pl : Nat), .slice sb5 sn5 sd5] 29)) w5.heap.size (.string t.op) (.string t.name) (.int .i64 (t.kind : Nat)) (.int .i64 t.n) (.int .i64 (t.pl : Nat)) (.slice sa5 sm5 sc5) from (B6.new w5 26 _ _ _ _ _ _).next ((Below.refl _ _).alloc (Nat.le_refl _) _))
    have Y6 := hid (show B6 ((w5.alloc (.cells #[.string t.op, .string t.name, .int .i64 (t.kind : Nat), .int .i64 t.n, .int .i64 (t.pl : Nat), .slice sa5 sm5 sc5] 26)).alloc (.cells #[.string t.op, .string t.name, .int .i64 (t.kind : Nat), .int .i64 t.n, .int .i64 (t.pl : Nat), .slice sb5 sn5 sd5] 29)) (w5.heap.size + 1) (.string t.op) (.string t.name) (.int .i64 (t.kind : Nat)) (.int .i64 t.n) (.int .i64 (t.pl : Nat)) (.slice sb5 sn5 sd5) from by have q := B6.new (w5.alloc (.cells #[.string t.op, .string t.name, .int .i64 (t.kind : Nat), .int .i64 t.n, .int .i64 (t.pl : Nat), .slice sa5 sm5 sc5] 26)) 29 (.string t.op) (.string t.name) (.int .i64 (t.kind : Nat)) (.int .i64 t.n) (.int .i64 (t.pl : Nat)) (.slice sb5 sn5 sd5); rw [show (w5.alloc (.cells #[.string t.op, .string t.name, .int .i64 (t.kind : Nat), .int .i64 t.n, .int .i64 (t.pl : Nat), .slice sa5 sm5 sc5] 26)).heap.size = w5.heap.size + 1 by simp] at q; exact q)
    have N6 := hid (N5.out.gwY A6.out)
    clear N5 M5 B5 A6 K2 KNA KNB
    generalize World.alloc (World.alloc w5 _) _ = w6 at *
    generalize w5.heap.size + 1 = qw at *
    generalize w5.heap.size = qn at *
    obtain ⟨gn, cn, sz, esl, ncz, nkz⟩ := Nd.thirdO (show Nd w6 _ (.slice sa5 sm5 sc5) [k0, k1, k2] from by rw [← EK.out]; exact N6.out)
    injection esl with es1 es2 es3
    subst es1 es2 es3
    have nk2 := nkz
    rw [EE.out] at nk2
    obtain ⟨g2, c2, se, rfl, nce, nde⟩ := nk2.oneO
    obtain ⟨ea, em, ec, rfl⟩ := nde.slice
    have p5 := ncz.e5
    obtain ⟨e0, e1, e2, e3, e4, e5⟩ := nce
    simp only [Nat.zero_add, Nat.reduceAdd] at p5 e1 e2 e3 e4 e5
    have NDE := hid nde
    have KO := hid (fun W (b : Below w6.heap.size w6 W) => Of_any t e _ _ W _ _ (N6.out.gwY b) GD2.out.2 LN.out [] none 0 (fun i x hx => by simp at hx) (by simp) 40 GE4.out (by decide) (NDE.out.gwY b) (HT.out.next (nextB P6.out b)))
    simp only [List.length_nil] at KO
    rw [RE.out] at KO
    generalize binK nm (a : Nat) (b : Nat) = R1 at *
    clear ncz nkz nk2 nde
    go_upto_region 15 with fail
    refine wp_region_held_drew (S := fun W => Below w6.heap.size w6 W) (by kernel_rfl) (Below.refl _ _).drew (fun hHeld => ?_)
    refine take2 rfl (i := 0) (v := .agg #[.string t.op, .string t.name, .int .i64 (t.kind : Nat), .int .i64 t.n, .int .i64 (t.pl : Nat), .slice (some ⟨gn, 0, none⟩) 3 sc5]) (d := 72) rfl rfl (by kernel_rfl) (by kernel_rfl) (by kernel_rfl) (fun _ _ _ h => h) (Or.inl ⟨by rfl, ?_⟩) hHeld ?_
    · (intro W hW; (try dsimp only at hW); obtain ⟨c0, c1, c2, c3, c4, c5, _⟩ := X6.out.next hW; go_simp)
    try simp only [Act.put, List.setIfInBounds_toArray, List.set_cons_zero, List.set_cons_succ]
    refine take2 rfl (i := 1) (v := .pointer (some ⟨qn, 5, none⟩)) (d := 73) rfl rfl (by kernel_rfl) (by kernel_rfl) (by kernel_rfl) (fun _ _ _ h => h) (Or.inl ⟨by rfl, ?_⟩) hHeld ?_
    · (intro W hW; (try dsimp only at hW); go_simp)
    try simp only [Act.put, List.setIfInBounds_toArray, List.set_cons_zero, List.set_cons_succ]
    refine take2 rfl (i := 2) (v := .slice (some ⟨gn, 0, none⟩) 3 sc5) (d := 74) rfl rfl (by kernel_rfl) (by kernel_rfl) (by kernel_rfl) (fun _ _ _ h => h) (Or.inl ⟨by rfl, ?_⟩) hHeld ?_
    · (intro W hW; (try dsimp only at hW); have c1 := (X6.out.next hW).c5; go_simp)
    try simp only [Act.put, List.setIfInBounds_toArray, List.set_cons_zero, List.set_cons_succ]
    refine take2 rfl (i := 3) (v := .pointer (some ⟨gn, 12, none⟩)) (d := 75) rfl rfl (by kernel_rfl) (by kernel_rfl) (by kernel_rfl) (fun _ _ _ h => h) (Or.inl ⟨by rfl, ?_⟩) hHeld ?_
    · (intro W hW; (try dsimp only at hW); go_simp)
    try simp only [Act.put, List.setIfInBounds_toArray, List.set_cons_zero, List.set_cons_succ]
    refine take2 rfl (i := 4) (v := .pointer (some ⟨gn, 17, none⟩)) (d := 76) rfl rfl (by kernel_rfl) (by kernel_rfl) (by kernel_rfl) (fun _ _ _ h => h) (Or.inl ⟨by rfl, ?_⟩) hHeld ?_
    · (intro W hW; (try dsimp only at hW); go_simp)
    try simp only [Act.put, List.setIfInBounds_toArray, List.set_cons_zero, List.set_cons_succ]
    refine take2 rfl (i := 5) (v := .slice (some ⟨g2, 0, none⟩) 1 c2) (d := 77) rfl rfl (by kernel_rfl) (by kernel_rfl) (by kernel_rfl) (fun _ _ _ h => h) (Or.inl ⟨by rfl, ?_⟩) hHeld ?_
    · (intro W hW; (try dsimp only at hW); have c1 := (World.cell?_of_block (hW.block _ (World.block_lt_of_cell? _ _ p5))).trans p5; go_simp)
    try simp only [Act.put, List.setIfInBounds_toArray, List.set_cons_zero, List.set_cons_succ]
    refine take2 rfl (i := 6) (v := .pointer (some ⟨g2, 0, none⟩)) (d := 78) rfl rfl (by kernel_rfl) (by kernel_rfl) (by kernel_rfl) (fun _ _ _ h => h) (Or.inl ⟨by rfl, ?_⟩) hHeld ?_
    · (intro W hW; (try dsimp only at hW); go_simp)
    try simp only [Act.put, List.setIfInBounds_toArray, List.set_cons_zero, List.set_cons_succ]
    refine take2 rfl (i := 7) (v := .agg #[.string e.op, .string e.name, .int .i64 (e.kind : Nat), .int .i64 e.n, .int .i64 (e.pl : Nat), .slice ea em ec]) (d := 79) rfl rfl (by kernel_rfl) (by kernel_rfl) (by kernel_rfl) (fun _ _ _ h => h) (Or.inl ⟨by rfl, ?_⟩) hHeld ?_
    · (intro W hW; (try dsimp only at hW); have d0 := (World.cell?_of_block (hW.block _ (World.block_lt_of_cell? _ _ e0))).trans e0; have d1 := (World.cell?_of_block (hW.block _ (World.block_lt_of_cell? _ _ e1))).trans e1; have d2 := (World.cell?_of_block (hW.block _ (World.block_lt_of_cell? _ _ e2))).trans e2; have d3 := (World.cell?_of_block (hW.block _ (World.block_lt_of_cell? _ _ e3))).trans e3; have d4 := (World.cell?_of_block (hW.block _ (World.block_lt_of_cell? _ _ e4))).trans e4; have d5 := (World.cell?_of_block (hW.block _ (World.block_lt_of_cell? _ _ e5))).trans e5; go_simp)
    try simp only [Act.put, List.setIfInBounds_toArray, List.set_cons_zero, List.set_cons_succ]
    refine take2 rfl (i := 9) (v := .string nm) (d := 81) rfl rfl (by kernel_rfl) (by kernel_rfl) (by kernel_rfl) (fun _ _ _ h => h) (Or.inl ⟨by rfl, ?_⟩) hHeld ?_
    · (intro W hW; (try dsimp only at hW); go_simp)
    try simp only [Act.put, List.setIfInBounds_toArray, List.set_cons_zero, List.set_cons_succ]
    refine take2 rfl (i := 10) (v := .int .i64 (a : Nat)) (d := 82) rfl rfl (by kernel_rfl) (by kernel_rfl) (by kernel_rfl) (fun _ _ _ h => h) (Or.inl ⟨by rfl, ?_⟩) hHeld ?_
    · (intro W hW; (try dsimp only at hW); go_simp)
    try simp only [Act.put, List.setIfInBounds_toArray, List.set_cons_zero, List.set_cons_succ]
    refine take2 rfl (i := 11) (v := .int .i64 (b : Nat)) (d := 83) rfl rfl (by kernel_rfl) (by kernel_rfl) (by kernel_rfl) (fun _ _ _ h => h) (Or.inl ⟨by rfl, ?_⟩) hHeld ?_
    · (intro W hW; (try dsimp only at hW); go_simp)
    try simp only [Act.put, List.setIfInBounds_toArray, List.set_cons_zero, List.set_cons_succ]
    have BZ := hid (show Below w6.heap.size w6 w6.drew from (Below.refl _ _).drew)
    generalize w6.drew = wz at *
    refine wpAnyH_ready (rs := [8]) (by kernel_rfl) (by simp) ?_
    refine cons2 rfl rfl (fun K9 hK => ?_)
    go_simp
    refine Calls.mono (KO.out _ BZ.out) ?_
    rintro x w8 ⟨rfl, b8⟩
    have B8 := hid (nextB BZ.out b8)
    clear b8
    go_wp2_with fail
    refine hK.out _ _ B8.out (fun hX => ?_)
    clear hK K9 hHeld
    have hHeld := hX
    clear hX
    try simp only [Act.put, List.setIfInBounds_toArray, List.set_cons_zero, List.set_cons_succ]
    refine wpAnyH_ready (rs := [12]) (by kernel_rfl) (by simp) ?_
    refine cons2 rfl rfl (fun K9 hK => ?_)
    go_simp
    refine Calls.mono (KB.out _) ?_
    rintro x w9 ⟨rfl, rfl⟩
    go_wp2_with fail
    refine hK.out _ _ B8.out (fun hX => ?_)
    clear hK K9 hHeld
    have hHeld := hX
    clear hX
    try simp only [Act.put, List.setIfInBounds_toArray, List.set_cons_zero, List.set_cons_succ]
    refine take2 rfl (i := 13) (v := .bool true) (d := 85) rfl rfl (by kernel_rfl) (by kernel_rfl) (by kernel_rfl) (fun _ _ _ h => h) (Or.inl ⟨by rfl, ?_⟩) hHeld ?_
    · (intro W hW; (try dsimp only at hW); go_simp)
    try simp only [Act.put, List.setIfInBounds_toArray, List.set_cons_zero, List.set_cons_succ]
    refine take2 rfl (i := 14) (v := .bool true) (d := 86) rfl rfl (by kernel_rfl) (by kernel_rfl) (by kernel_rfl) (fun _ _ _ h => h) (Or.inl ⟨by rfl, ?_⟩) hHeld ?_
    · (intro W hW; (try dsimp only at hW); go_simp)
    try simp only [Act.put, List.setIfInBounds_toArray, List.set_cons_zero, List.set_cons_succ]
    refine take2 rfl (i := 15) (v := .pointer (some ⟨qw, 0, none⟩)) (d := 87) rfl rfl (by kernel_rfl) (by kernel_rfl) (by kernel_rfl) (fun _ _ _ h => h) (Or.inl ⟨by rfl, ?_⟩) hHeld ?_
    · (intro W hW; (try dsimp only at hW); go_simp)
    try simp only [Act.put, List.setIfInBounds_toArray, List.set_cons_zero, List.set_cons_succ]
    refine take2 rfl (i := 16) (v := .string t.op) (d := 88) rfl rfl (by kernel_rfl) (by kernel_rfl) (by kernel_rfl) (fun _ _ _ h => h) (Or.inl ⟨by rfl, ?_⟩) hHeld ?_
    · (intro W hW; (try dsimp only at hW); have c1 := (Y6.out.next hW).c0; go_simp)
    try simp only [Act.put, List.setIfInBounds_toArray, List.set_cons_zero, List.set_cons_succ]
    refine take2 rfl (i := 17) (v := .bool true) (d := 89) rfl rfl (by kernel_rfl) (by kernel_rfl) (by kernel_rfl) (fun _ _ _ h => h) (Or.inl ⟨by rfl, ?_⟩) hHeld ?_
    · (intro W hW; (try dsimp only at hW); go_simp)
    try simp only [Act.put, List.setIfInBounds_toArray, List.set_cons_zero, List.set_cons_succ]
    refine take2 rfl (i := 18) (v := .bool true) (d := 90) rfl rfl (by kernel_rfl) (by kernel_rfl) (by kernel_rfl) (fun _ _ _ h => h) (Or.inl ⟨by rfl, ?_⟩) hHeld ?_
    · (intro W hW; (try dsimp only at hW); go_simp)
    try simp only [Act.put, List.setIfInBounds_toArray, List.set_cons_zero, List.set_cons_succ]
    refine take2 rfl (i := 19) (v := .bool true) (d := 6) rfl rfl (by kernel_rfl) (by kernel_rfl) (by kernel_rfl) (fun _ _ _ h => h) (Or.inl ⟨by rfl, ?_⟩) hHeld ?_
    · (intro W hW; (try dsimp only at hW); go_simp)
    try simp only [Act.put, List.setIfInBounds_toArray, List.set_cons_zero, List.set_cons_succ]
    refine wpAnyH_done (by kernel_rfl) ?_ _
    go_wp2_with fail
    go_returns
    exact ⟨rfl, nextB P6.out B8.out⟩
end Go.Proofs.YtonmdlhlkacppaaDoor

