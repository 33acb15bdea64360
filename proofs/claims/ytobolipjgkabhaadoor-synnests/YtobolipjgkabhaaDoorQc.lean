/- The walk over show. -/
import Derived.Test.YtobolipjgkabhaaDoorQb
namespace Go.Proofs.YtobolipjgkabhaaDoor
open Go.Shelf Go.RowKit
set_option linter.unusedVariables false
set_option linter.unusedSimpArgs false

theorem patF_size (op : ByteArray) (m : Nat) : (patF op m).size ≤ 100 := by
  have key : ∀ (c : Prop) [Decidable c] (a b : ByteArray), a.size ≤ 100 → b.size ≤ 100 → (if c then a else b).size ≤ 100 := by
    intro c _ a b ha hb
    by_cases h : c
    · rw [if_pos h]; exact ha
    · rw [if_neg h]; exact hb
  unfold patF
  repeat' (first | refine key _ _ _ ?_ ?_ | decide)
theorem box_cells {w : World} {g : Nat} {v0 v1 v2 v3 v4 v5 : Value} {t : TypeId} {fz : Nat × Nat} (h : w.heap[g]? = some (.cells #[v0, v1, v2, v3, v4, v5] t fz)) : w.cell? ⟨g, 0, none⟩ = some v0 ∧ w.cell? ⟨g, 1, none⟩ = some v1 ∧ w.cell? ⟨g, 2, none⟩ = some v2 ∧ w.cell? ⟨g, 3, none⟩ = some v3 ∧ w.cell? ⟨g, 4, none⟩ = some v4 ∧ w.cell? ⟨g, 5, none⟩ = some v5 :=
  ⟨by simp [World.cell?, h], by simp [World.cell?, h], by simp [World.cell?, h], by simp [World.cell?, h], by simp [World.cell?, h], by simp [World.cell?, h]⟩
set_option maxRecDepth 100000 in
set_option maxHeartbeats 2000000 in
theorem show_nd (B : Nat) (op nm : ByteArray) (kd : Nat) (n : Int) (pl : Nat) (ks : List Tr) (hB : 1 < B) (hst : eqB op ⟨#[115, 116, 97, 116, 117, 116, 101]⟩ = false) (hli : eqB op ⟨#[108, 105, 116]⟩ = false) (hta : eqB op ⟨#[116, 97, 98, 108, 101]⟩ = false) (hok : okP (patF op ks.length) kd ks.length = true) (hkd : kd ≤ 1000000) (hS : ∀ t ∈ ks, SC B t) : SC B (.nd op nm kd n pl ks) := by
  intro w l v sa sm sc hN h hT hK hl
  simp only [Tr.op, Tr.name, Tr.kind, Tr.n, Tr.pl, Tr.kids] at hN hl ⊢
  have hs := h.ba
  have B0 := hid (show Below w.heap.size w (w.alloc (.cells #[.string op, .string nm, .int .i64 (kd : Nat), .int .i64 n, .int .i64 (pl : Nat), .slice sa sm sc] 26)) from (Below.refl _ _).alloc (Nat.le_refl _) _)
  have OB := hid (h.next B0.out)
  have BB := hid (Wt.of hs B0.out)
  have TH := hid (hT.on BB.out.bl)
  have KH := hid (hK.next B0.out)
  have NH := hid (hN.wt BB.out)
  have HX := hid (show (w.alloc (.cells #[.string op, .string nm, .int .i64 (kd : Nat), .int .i64 n, .int .i64 (pl : Nat), .slice sa sm sc] 26)).heap[w.heap.size]? = some (.cells #[.string op, .string nm, .int .i64 (kd : Nat), .int .i64 n, .int .i64 (pl : Nat), .slice sa sm sc] 26) from heap_alloc_new w _)
  obtain ⟨c0, c1, c2, c3, c4, c5, cz⟩ := B6.new w 26 (.string op) (.string nm) (.int .i64 (kd : Nat)) (.int .i64 n) (.int .i64 (pl : Nat)) (.slice sa sm sc)
  have ml : sm = ks.length := by cases hN <;> rfl
  have FE := hid (show l ++ shw (.nd op nm kd n pl ks) = l ++ fillS op nm kd (patF op sm).data.toList (shwK ks) from by unfold shw; rw [if_neg (by rw [hst]; decide), if_neg (by rw [hli]; decide), if_pos hok, ml])
  have LH : l.length + (fillS op nm kd (patF op sm).data.toList (shwK ks)).length ≤ 100000000 := by have := congrArg List.length FE.out; rw [List.length_append, List.length_append] at this; omega
  have OKH : okP (patF op sm) kd ks.length = true := by rw [ml]; exact hok
  have SH := hid hS
  have ust : (op.toList == [115, 116, 97, 116, 117, 116, 101]) = false := (eqL op _).trans hst
  have uta : (op.toList == [116, 97, 98, 108, 101]) = false := (eqL op _).trans hta
  have uli : (op.toList == [108, 105, 116]) = false := (eqL op _).trans hli
  clear h hT hN hK hS B0 hl hok ml
  go_enter Tryd.func10, Tryd.ntmps10
  go_upto_region 1 with fail
  generalize World.alloc w _ = w1 at *
  go_upto_region 13 with fail
  refine wp_region_held_drew (S := (fun W => W.cell? ⟨w.heap.size, 0, none⟩ = some (.string op) ∧ W.cell? ⟨w.heap.size, 1, none⟩ = some (.string nm) ∧ W.cell? ⟨w.heap.size, 2, none⟩ = some (.int .i64 (kd : Nat)) ∧ W.cell? ⟨w.heap.size, 3, none⟩ = some (.int .i64 n) ∧ W.cell? ⟨w.heap.size, 4, none⟩ = some (.int .i64 (pl : Nat)) ∧ W.cell? ⟨w.heap.size, 5, none⟩ = some (.slice sa sm sc))) (by kernel_rfl) ⟨c0, c1, c2, c3, c4, c5⟩ (fun hHeld => ?_)
  have O0 := hid (show Ob w1.drew B v l from OB.out.next (Below.refl _ _).drew)
  have W0 := hid (show Wt B w w1.drew from BB.out.next OB.out.ba (Below.refl _ _).drew)
  have D0 := hid (show Wt B w1 w1.drew from Wt.of OB.out.ba (Below.refl _ _).drew)
  have H0 := hid (show w1.drew.heap[w.heap.size]? = _ from HX.out)
  generalize w1.drew = wz at *
  refine take2 rfl (i := 0) (v := v) (d := 35) rfl rfl (by kernel_rfl) (by kernel_rfl) (by kernel_rfl) (fun _ _ _ h => h) (Or.inl ⟨by rfl, ?_⟩) hHeld ?_
  · (intro W hW; (try dsimp only at hW); go_simp)
  try simp only [Act.put, List.setIfInBounds_toArray, List.set_cons_zero, List.set_cons_succ]
  refine take2 rfl (i := 1) (v := .agg #[.string op, .string nm, .int .i64 (kd : Nat), .int .i64 n, .int .i64 (pl : Nat), .slice sa sm sc]) (d := 36) rfl rfl (by kernel_rfl) (by kernel_rfl) (by kernel_rfl) (fun _ _ _ h => h) (Or.inl ⟨by rfl, ?_⟩) hHeld ?_
  · (intro W hW; (try dsimp only at hW); go_simp)
  try simp only [Act.put, List.setIfInBounds_toArray, List.set_cons_zero, List.set_cons_succ]
  refine take2 rfl (i := 2) (v := .agg #[.string op, .string nm, .int .i64 (kd : Nat), .int .i64 n, .int .i64 (pl : Nat), .slice sa sm sc]) (d := 37) rfl rfl (by kernel_rfl) (by kernel_rfl) (by kernel_rfl) (fun _ _ _ h => h) (Or.inl ⟨by rfl, ?_⟩) hHeld ?_
  · (intro W hW; (try dsimp only at hW); go_simp)
  try simp only [Act.put, List.setIfInBounds_toArray, List.set_cons_zero, List.set_cons_succ]
  refine wpAnyH_ready (rs := [3]) (by kernel_rfl) (by simp) ?_
  refine cons2 rfl rfl (fun K9 hK => ?_)
  go_simp
  go_at_call 21
  refine Calls.mono (pattern_any op nm (kd : Nat) n (pl : Nat) sa sm sc wz) ?_
  rintro e w5 ⟨rfl, b5⟩
  have O5 := hid (O0.out.next b5)
  have D5 := hid (D0.out.next O0.out.ba b5)
  have W5 := hid (W0.out.next O0.out.ba b5)
  have H5 := hid ((b5.block _ (Array.getElem?_eq_some_iff.1 H0.out).1).trans H0.out)
  clear b5
  go_wp2_with fail
  refine hK.out _ _ (box_cells H5.out) (fun hX => ?_)
  clear hK K9 hHeld
  have hHeld := hX
  clear hX
  try simp only [Act.put, List.setIfInBounds_toArray, List.set_cons_zero, List.set_cons_succ]
  refine wpAnyH_ready (rs := [4]) (by kernel_rfl) (by simp) ?_
  refine cons2 rfl rfl (fun K9 hK => ?_)
  go_simp
  go_at_call 20
  refine Calls.mono (fill_any B op nm (patF op sm) kd n (pl : Nat) ks sa sm sc l v w5 hB (patF_size op sm) OKH hkd SH.out (NH.out.wt D5.out) O5.out (TH.out.on D5.out.bl) (KH.out.wt D5.out hB) LH) ?_
  rintro e w6 ⟨v6, rfl, o6, b6⟩
  have O6 := hid o6
  have W6 := hid (W5.out.trans b6)
  have H6 := hid (box_wt H5.out b6)
  clear o6 b6
  go_wp2_with fail
  refine hK.out _ _ (box_cells H6.out) (fun hX => ?_)
  clear hK K9 hHeld
  have hHeld := hX
  clear hX
  try simp only [Act.put, List.setIfInBounds_toArray, List.set_cons_zero, List.set_cons_succ]
  refine take2 rfl (i := 5) (v := v6) (d := 4) rfl rfl (by kernel_rfl) (by kernel_rfl) (by kernel_rfl) (fun _ _ _ h => h) (Or.inl ⟨by rfl, ?_⟩) hHeld ?_
  · (intro W hW; (try dsimp only at hW); go_simp)
  try simp only [Act.put, List.setIfInBounds_toArray, List.set_cons_zero, List.set_cons_succ]
  refine wpAnyH_done (by kernel_rfl) ?_ _
  go_wp2
  go_ret
  exact ⟨v6, rfl, by rw [FE.out]; exact O6.out, W6.out⟩

theorem litS_of {kd n : Nat} {nm : ByteArray} {pl : Nat} : shw (.nd ⟨#[108, 105, 116]⟩ nm kd (n : Nat) pl []) = litS kd n := by
  unfold shw
  rw [if_neg (by decide), if_pos (by decide)]
  rfl
set_option maxRecDepth 100000 in
set_option maxHeartbeats 2000000 in
theorem show_lit (B : Nat) (nm : ByteArray) (kd n pl : Nat) (hk : kd = 1 ∧ n ≤ 1 ∨ kd = 2 ∧ n < 9223372036854775808 ∨ kd = 3 ∧ n < 9223372036854775808) : SC B (.nd ⟨#[108, 105, 116]⟩ nm kd (n : Nat) pl []) := by
  intro w l v sa sm sc hN h hT hK hl
  rw [litS_of] at hl ⊢
  simp only [Tr.op, Tr.name, Tr.kind, Tr.n, Tr.pl, Tr.kids] at hN hl ⊢
  obtain ⟨rfl, rfl, rfl⟩ : sa = none ∧ sm = 0 ∧ sc = 0 := by
    cases hN with
    | nil => exact ⟨rfl, rfl, rfl⟩
    | row g c ts sl hs h0 hc hk => exact absurd rfl h0
  have hs := h.ba
  have B0 := hid (show Below w.heap.size w (w.alloc (.cells #[.string ⟨#[108, 105, 116]⟩, .string nm, .int .i64 (kd : Nat), .int .i64 (n : Nat), .int .i64 (pl : Nat), .slice none 0 0] 26)) from (Below.refl _ _).alloc (Nat.le_refl _) _)
  have OB := hid (h.next B0.out)
  have BB := hid (Wt.of hs B0.out)
  have HC := hid (show Calls Tryd.prog 19 #[v, .agg #[.string ⟨#[108, 105, 116]⟩, .string nm, .int .i64 (kd : Nat), .int .i64 (n : Nat), .int .i64 (pl : Nat), .slice none 0 0]] (w.alloc (.cells #[.string ⟨#[108, 105, 116]⟩, .string nm, .int .i64 (kd : Nat), .int .i64 (n : Nat), .int .i64 (pl : Nat), .slice none 0 0] 26)) (fun e w' => ∃ v', e = .returned v' ∧ Ob w' B v' (l ++ litS kd n) ∧ Wt B (w.alloc (.cells #[.string ⟨#[108, 105, 116]⟩, .string nm, .int .i64 (kd : Nat), .int .i64 (n : Nat), .int .i64 (pl : Nat), .slice none 0 0] 26)) w') from by
    rcases hk with ⟨rfl, a⟩ | ⟨rfl, a⟩ | ⟨rfl, a⟩
    · exact showLit_bool B n nm (pl : Nat) l v _ a OB.out (by omega) (hT.on BB.out.bl)
    · exact showLit_count B n nm (pl : Nat) l v _ a OB.out (by omega) (hT.on BB.out.bl)
    · exact showLit_money B n nm (pl : Nat) l v _ a OB.out (by omega) (hT.on BB.out.bl))
  obtain ⟨c0, c1, c2, c3, c4, c5, cz⟩ := B6.new w 26 (.string ⟨#[108, 105, 116]⟩) (.string nm) (.int .i64 (kd : Nat)) (.int .i64 (n : Nat)) (.int .i64 (pl : Nat)) (.slice none 0 0)
  clear h hT hN hK B0 hl hk
  generalize litS kd n = LS at *
  go_enter Tryd.func10, Tryd.ntmps10
  go_upto_region 1 with fail
  generalize World.alloc w _ = w1 at *
  go_wp2_with (go_at_call 19; with_reducible refine Calls.mono HC.out ?_; rintro e w2 ⟨v2, rfl, o2, b2⟩)
  go_ret
  exact ⟨v2, rfl, o2, BB.out.trans b2⟩
set_option maxRecDepth 100000 in
set_option maxHeartbeats 2000000 in
theorem show_stat (B : Nat) (nm : ByteArray) (kd : Nat) (n : Int) (pl : Nat) (ks : List Tr) (hB : 1 < B) (hk : ks.length ≤ 100000) (hS : ∀ t ∈ ks, SC B t) : SC B (.nd ⟨#[115, 116, 97, 116, 117, 116, 101]⟩ nm kd n pl ks) := by
  intro w l v sa sm sc hN h hT hK hl
  simp only [Tr.op, Tr.name, Tr.kind, Tr.n, Tr.pl, Tr.kids] at hN hl ⊢
  have hs := h.ba
  have B0 := hid (show Below w.heap.size w (w.alloc (.cells #[.string ⟨#[115, 116, 97, 116, 117, 116, 101]⟩, .string nm, .int .i64 (kd : Nat), .int .i64 n, .int .i64 (pl : Nat), .slice sa sm sc] 26)) from (Below.refl _ _).alloc (Nat.le_refl _) _)
  have OB := hid (h.next B0.out)
  have BB := hid (Wt.of hs B0.out)
  have TH := hid (hT.on BB.out.bl)
  have KH := hid (hK.next B0.out)
  have NH := hid (hN.wt BB.out)
  have HX := hid (show (w.alloc (.cells #[.string ⟨#[115, 116, 97, 116, 117, 116, 101]⟩, .string nm, .int .i64 (kd : Nat), .int .i64 n, .int .i64 (pl : Nat), .slice sa sm sc] 26)).heap[w.heap.size]? = some (.cells #[.string ⟨#[115, 116, 97, 116, 117, 116, 101]⟩, .string nm, .int .i64 (kd : Nat), .int .i64 n, .int .i64 (pl : Nat), .slice sa sm sc] 26) from heap_alloc_new w _)
  obtain ⟨c0, c1, c2, c3, c4, c5, cz⟩ := B6.new w 26 (.string ⟨#[115, 116, 97, 116, 117, 116, 101]⟩) (.string nm) (.int .i64 (kd : Nat)) (.int .i64 n) (.int .i64 (pl : Nat)) (.slice sa sm sc)
  have ml : sm = ks.length := by cases hN <;> rfl
  subst ml
  obtain ⟨F, hF⟩ : ∃ F, shw (.nd ⟨#[115, 116, 97, 116, 117, 116, 101]⟩ nm kd n pl ks) = F := ⟨_, rfl⟩
  have FE := hid (show shwL ks = F from by rw [← hF]; unfold shw; rw [if_pos (by decide)])
  rw [hF] at hl ⊢
  have SH := hid hS
  clear h hT hN hK B0 hS hF
  go_enter Tryd.func10, Tryd.ntmps10
  go_upto_region 1 with fail
  generalize World.alloc w _ = w1 at *
  go_upto_region 4 with fail
  go_loopg [0, 14] (ks.length + 1) (fun g bv iv wr => ∃ (i : Nat) (ld : List UInt8) (b0 : Value), b0 = bv ∧ i ≤ ks.length ∧ g = ks.length + 1 - i ∧ iv = .int .i64 (i : Nat) ∧ Hid (Ob wr B bv (l ++ ld)) ∧ Hid (Wt B w1 wr) ∧ Hid (ld ++ shwL (ks.drop i) = F))
  case atStart => exact ⟨0, [], _, rfl, Nat.zero_le _, rfl, rfl, by rw [List.append_nil]; exact OB, Wt.refl _ _, FE⟩
  case round =>
    clear FE OB c0 c1 c2 c3 c4 c5 cz
    obtain ⟨i, ld, bv, rfl, hi, rfl, rfl, OW, WW, EH⟩ := hrel
    by_cases q : i < ks.length
    · have q' : (i : Int) < (ks.length : Int) := by omega
      have ll : (ks.length : Int) ≤ 100000 := by omega
      obtain ⟨t, ht⟩ : ∃ t, ks[i]? = some t := ⟨_, List.getElem?_eq_getElem q⟩
      have HE := hid (show (ld ++ shw t ++ [10]) ++ shwL (ks.drop (i + 1)) = F from by rw [← EH.out, List.drop_eq_getElem_cons q, (List.getElem?_eq_some_iff.1 ht).2]; simp [shwL])
      have lF : ld.length + (shw t).length ≤ F.length := by have := congrArg List.length HE.out; simp only [List.length_append] at this; omega
      obtain ⟨gk, ka, km, kc, rfl, _, nc, nd⟩ := (NH.out.wt WW.out).at_ i t ht
      obtain ⟨k0, k1, k2, k3, k4, k5⟩ := nc
      have HS8 := hid (show Below wr.heap.size wr (wr.alloc (.cells #[.string t.op, .string t.name, .int .i64 (t.kind : Nat), .int .i64 t.n, .int .i64 (t.pl : Nat), .slice ka km kc] 26)) from (Below.refl _ _).alloc (Nat.le_refl _) _)
      have O8 := hid (OW.out.next HS8.out)
      have W8 := hid (WW.out.next OW.out.ba HS8.out)
      have N8 := hid (nd.wt (Wt.of OW.out.ba HS8.out))
      obtain ⟨b0, b1, b2, b3, b4, b5, bz⟩ := B6.new wr 26 (.string t.op) (.string t.name) (.int .i64 (t.kind : Nat)) (.int .i64 t.n) (.int .i64 (t.pl : Nat)) (.slice ka km kc)
      have SK := hid (SH.out t (List.mem_of_getElem? ht) _ (l ++ ld) bv ka km kc N8.out O8.out (TH.out.on W8.out.bl) (KH.out.wt W8.out hB) (by rw [List.length_append]; omega))
      clear nd ht HS8 N8
      go_upto_region 6 with fail
      generalize World.alloc wr _ = w2 at *
      clear k0 k1 k2 k3 k4 k5
      go_wp2_with (first | (go_at_call 10; with_reducible refine Calls.mono SK.out ?_; rintro e w3 ⟨v3, rfl, o3, x3⟩; have O3 := hid (o3.next (show Below w3.heap.size w3 (w3.alloc (.cells #[.int .u8 10] 5)) from (Below.refl _ _).alloc (Nat.le_refl _) _)); have W3 := hid ((W8.out.trans x3).next o3.ba (show Below w3.heap.size w3 (w3.alloc (.cells #[.int .u8 10] 5)) from (Below.refl _ _).alloc (Nat.le_refl _) _)); have c8 : (w3.alloc (.cells #[.int .u8 10] 5)).cell? ⟨w3.heap.size, 0, none⟩ = some (.int .u8 (10 : UInt8).toNat) := by simp) | (at_builtin; refine wpList_addC rfl (.tmp 20) (.tmp 21) rfl B v3 (l ++ ld ++ shw t) 10 rfl O3.out w3.heap.size rfl c8 (by rw [List.length_append, List.length_append]; omega) ?_; intro v4 w4 o4 x4; have O4 := hid (show Ob w4 B v4 (l ++ (ld ++ shw t ++ [10])) from by rw [← List.append_assoc, ← List.append_assoc]; exact o4); have W4 := hid (W3.out.trans x4); clear o4 x4))
      go_roundg (ks.length + 1 - (i + 1))
      case measure => omega
      case rel => exact ⟨i + 1, ld ++ shw t ++ [10], _, rfl, by omega, rfl, by rw [Int.natCast_add]; rfl, O4, W4, HE⟩
    · have q' : ¬ (i : Int) < (ks.length : Int) := by omega
      have HE := hid (show ld = F from by rw [← EH.out, List.drop_eq_nil_of_le (by omega)]; simp [shwL])
      go_wp2_with fail
      go_ret
      exact ⟨bv, rfl, by rw [← HE.out]; exact OW.out, BB.out.trans WW.out⟩
end Go.Proofs.YtobolipjgkabhaaDoor
