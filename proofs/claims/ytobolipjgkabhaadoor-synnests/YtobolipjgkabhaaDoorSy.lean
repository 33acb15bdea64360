/- The walk over showLit. -/
import Derived.Test.YtobolipjgkabhaaDoorSw
import Derived.Laws.Concat
namespace Go.Proofs.YtobolipjgkabhaaDoor
open Go.Shelf Go.RowKit
set_option linter.unusedVariables false
set_option linter.unusedSimpArgs false

theorem wp_addS {w : World} {o : Oper} {a : Act} {K : Act → World → Prop} {Q : Exit → Act → World → Prop} (sl x : Operand)
    (ho : o.op = .call { callee := .builtin .append, args := #[sl, x], argTypes := #[42, 9] }) (B : Nat) (v : Value) (l : List UInt8) (s : ByteArray) (hs : a.eval sl = v) (hown : Ob w B v l) (hx : a.eval x = .string s) (hl : l.length + s.size ≤ 1000000000)
    (h : ∀ v' w', Ob w' B v' (l ++ s.data.toList) → Wt B w w' → K (a.put o.dst v') w') : o.wp Tryd.prog a w K Q := by
  obtain ⟨i0, hi, hz0, hz1, hz2⟩ := info_parts byteInfo
  obtain ⟨v', w', hr, h2, h3, h4⟩ := Lib.run_append_own_string (P := Tryd.prog) w B 42 9 o.type 5 i0 Tryd.underlying42 Tryd.underlying9 hi hz0 hz1 hz2 v l.length (Lib.byteCells l) hown.own s (by unfold maxLen; omega) (by omega) hown.ba
  unfold Oper.wp execOp
  simp only [ho, resolve, invoke, builtin, Sem.run_bind, Sem.run_pure, Result.andThen_ok, List.map_toArray, List.map_cons, List.map_nil, hs, hx, hr]
  have hb := Wt.grown hown h3
  exact h v' w' ⟨by rw [List.length_append, bytes_app]; exact h2, Nat.le_trans hown.ba hb.bl.size⟩ hb
theorem wp_addC {w : World} {o : Oper} {a : Act} {K : Act → World → Prop} {Q : Exit → Act → World → Prop} (sl x : Operand)
    (ho : o.op = .call { callee := .builtin .append, args := #[sl, x], argTypes := #[42, 42] }) (B : Nat) (v : Value) (l : List UInt8) (ch : UInt8) (hs : a.eval sl = v) (hown : Ob w B v l) (g : Nat) (hx : a.eval x = .slice (some ⟨g, 0, none⟩) 1 1) (hc : w.cell? ⟨g, 0, none⟩ = some (.int .u8 ch.toNat)) (hl : l.length ≤ 1000000000)
    (h : ∀ v' w', Ob w' B v' (l ++ [ch]) → Wt B w w' → K (a.put o.dst v') w') : o.wp Tryd.prog a w K Q := by
  obtain ⟨i0, hi, hz0, hz1, hz2⟩ := info_parts byteInfo
  refine wp_append_own w sl x 42 ho B 5 i0 _ 1 1 Tryd.underlying42 hi hz0 hz1 hz2 rfl (by decide) v l.length (Lib.byteCells l) hs hown.own ⟨g, 0, none⟩ 1 1 [.int .u8 ch.toNat] hx rfl (fun j u hu => ?_) (fun u hu => ?_) (by unfold maxLen; omega) (by omega) hown.ba (fun v' w' h2 h3 _ => ?_)
  · cases j with
    | zero => simp at hu; subst hu; simpa [Addr.add] using hc
    | succ j => simp at hu
  · simp at hu; subst hu; rfl
  · have hb := Wt.grown hown h3
    exact h v' w' ⟨by rw [List.length_append, bytes_app]; exact h2, Nat.le_trans hown.ba hb.bl.size⟩ hb
/-- A node's box is no row of bytes: writing leaves it. -/
theorem box_wt {w w' : World} {B g : Nat} {arr : Array Value} {fz : Nat × Nat} (h : w.heap[g]? = some (.cells arr 26 fz)) (k : Wt B w w') : w'.heap[g]? = some (.cells arr 26 fz) :=
  k.ok g _ h (by simp) (fun c f e => by injection e with _ e _; revert e; decide)
/-- A literal's bytes. -/
def litS (kind n : Nat) : List UInt8 := if kind = 1 then (if n = 1 then [116, 114, 117, 101] else [102, 97, 108, 115, 101]) else if kind = 2 then Lib.decDigits n else if kind = 3 then 36 :: decU 100 n else decU 10000 n ++ [37]
set_option maxRecDepth 100000 in
set_option maxHeartbeats 2000000 in
theorem showLit_bool (B n : Nat) (nm : ByteArray) (pl : Int) (l : List UInt8) (v : Value) (w : World) (hn : n ≤ 1) (h : Ob w B v l) (hl : l.length ≤ 800000000) (hT : PT B w) :
    Calls Tryd.prog 19 #[v, .agg #[.string ⟨#[108, 105, 116]⟩, .string nm, .int .i64 1, .int .i64 (n : Nat), .int .i64 pl, .slice none 0 0]] w fun e w' => ∃ v', e = .returned v' ∧ Ob w' B v' (l ++ litS 1 n) ∧ Wt B w w' := by
  have hs := h.ba
  have B0 := hid (show Below w.heap.size w (w.alloc (.cells #[.string ⟨#[108, 105, 116]⟩, .string nm, .int .i64 1, .int .i64 (n : Nat), .int .i64 pl, .slice none 0 0] 26)) from (Below.refl _ _).alloc (Nat.le_refl _) _)
  have OB := hid (h.next B0.out)
  have BB := hid (Wt.of hs B0.out)
  have TH := hid (hT.on BB.out.bl)
  have HX := hid (show (w.alloc (.cells #[.string ⟨#[108, 105, 116]⟩, .string nm, .int .i64 1, .int .i64 (n : Nat), .int .i64 pl, .slice none 0 0] 26)).heap[w.heap.size]? = some (.cells #[.string ⟨#[108, 105, 116]⟩, .string nm, .int .i64 1, .int .i64 (n : Nat), .int .i64 pl, .slice none 0 0] 26) from heap_alloc_new w _)
  obtain ⟨c0, c1, c2, c3, c4, c5, cz⟩ := B6.new w 26 (.string ⟨#[108, 105, 116]⟩) (.string nm) (.int .i64 1) (.int .i64 (n : Nat)) (.int .i64 pl) (.slice none 0 0)
  clear h hT B0
  go_enter Tryd.func19, Tryd.ntmps19
  go_upto_region 1 with fail
  generalize World.alloc w _ = w1 at *
  generalize w.heap.size = g at *
  have KB := hid (fun w => boolText_any n w hn)
  obtain ⟨T, hTT⟩ : ∃ T : ByteArray, (if n = 1 then ⟨#[116, 114, 117, 101]⟩ else ⟨#[102, 97, 108, 115, 101]⟩) = T := ⟨_, rfl⟩
  have FE := hid (show litS 1 n = T.data.toList from by rw [← hTT]; unfold litS; rw [if_pos rfl]; split <;> rfl)
  have TS : T.size ≤ 5 := by rw [← hTT]; split <;> decide
  rw [hTT] at KB
  clear hTT
  go_wp2_with (first | (go_at_call 34; with_reducible refine Calls.mono (KB.out _) ?_; rintro e w2 ⟨rfl, rfl⟩) | (at_builtin; refine wpList_addS rfl (.tmp 14) (.tmp 17) rfl B v l T rfl OB.out rfl (by omega) ?_; intro v2 w2 o2 b2))
  go_ret
  exact ⟨v2, rfl, by rw [FE.out]; exact o2, BB.out.trans b2⟩
set_option maxRecDepth 100000 in
set_option maxHeartbeats 2000000 in
theorem showLit_count (B n : Nat) (nm : ByteArray) (pl : Int) (l : List UInt8) (v : Value) (w : World) (hn : n < 9223372036854775808) (h : Ob w B v l) (hl : l.length ≤ 800000000) (hT : PT B w) :
    Calls Tryd.prog 19 #[v, .agg #[.string ⟨#[108, 105, 116]⟩, .string nm, .int .i64 2, .int .i64 (n : Nat), .int .i64 pl, .slice none 0 0]] w fun e w' => ∃ v', e = .returned v' ∧ Ob w' B v' (l ++ litS 2 n) ∧ Wt B w w' := by
  have hs := h.ba
  have B0 := hid (show Below w.heap.size w (w.alloc (.cells #[.string ⟨#[108, 105, 116]⟩, .string nm, .int .i64 2, .int .i64 (n : Nat), .int .i64 pl, .slice none 0 0] 26)) from (Below.refl _ _).alloc (Nat.le_refl _) _)
  have OB := hid (h.next B0.out)
  have BB := hid (Wt.of hs B0.out)
  have TH := hid (hT.on BB.out.bl)
  have HX := hid (show (w.alloc (.cells #[.string ⟨#[108, 105, 116]⟩, .string nm, .int .i64 2, .int .i64 (n : Nat), .int .i64 pl, .slice none 0 0] 26)).heap[w.heap.size]? = some (.cells #[.string ⟨#[108, 105, 116]⟩, .string nm, .int .i64 2, .int .i64 (n : Nat), .int .i64 pl, .slice none 0 0] 26) from heap_alloc_new w _)
  obtain ⟨c0, c1, c2, c3, c4, c5, cz⟩ := B6.new w 26 (.string ⟨#[108, 105, 116]⟩) (.string nm) (.int .i64 2) (.int .i64 (n : Nat)) (.int .i64 pl) (.slice none 0 0)
  clear h hT B0
  go_enter Tryd.func19, Tryd.ntmps19
  go_upto_region 1 with fail
  generalize World.alloc w _ = w1 at *
  generalize w.heap.size = g at *
  have KB := hid (show Calls Tryd.prog 35 #[v, .int .i64 (n : Nat), .int .i64 10] w1 (fun e w' => ∃ v', e = .returned v' ∧ w'.ownsRow B 5 1 v' (l.length + (Lib.itoa (n : Nat)).length) (Lib.byteCells l ++ Lib.byteCells (Lib.itoa (n : Nat))) ∧ Below B w1 w' ∧ Lib.OthersKept 5 none w1 w') from Any.strconv_AppendInt_10 laysI B l.length (n : Nat) (by omega) (by omega) v (Lib.byteCells l) w1 OB.out.own OB.out.ba (by omega) TH.out)
  have FE := hid (show litS 2 n = Lib.itoa (n : Nat) from by unfold litS Lib.itoa; rw [if_neg (by decide), if_pos rfl, if_neg (by omega)]; rfl)
  go_wp2_with (go_at_call 35; with_reducible refine Calls.mono KB.out ?_; rintro e w2 ⟨v2, rfl, o2, b2, k2⟩)
  go_ret
  exact ⟨v2, rfl, ⟨by rw [FE.out, List.length_append, bytes_app]; exact o2, Nat.le_trans OB.out.ba b2.size⟩, BB.out.trans ⟨b2, k2⟩⟩
set_option maxRecDepth 100000 in
set_option maxHeartbeats 2000000 in
theorem showLit_money (B n : Nat) (nm : ByteArray) (pl : Int) (l : List UInt8) (v : Value) (w : World) (hn : n < 9223372036854775808) (h : Ob w B v l) (hl : l.length ≤ 800000000) (hT : PT B w) :
    Calls Tryd.prog 19 #[v, .agg #[.string ⟨#[108, 105, 116]⟩, .string nm, .int .i64 3, .int .i64 (n : Nat), .int .i64 pl, .slice none 0 0]] w fun e w' => ∃ v', e = .returned v' ∧ Ob w' B v' (l ++ litS 3 n) ∧ Wt B w w' := by
  have hs := h.ba
  have B0 := hid (show Below w.heap.size w (w.alloc (.cells #[.string ⟨#[108, 105, 116]⟩, .string nm, .int .i64 3, .int .i64 (n : Nat), .int .i64 pl, .slice none 0 0] 26)) from (Below.refl _ _).alloc (Nat.le_refl _) _)
  have OB := hid (h.next B0.out)
  have BB := hid (Wt.of hs B0.out)
  have TH := hid (hT.on BB.out.bl)
  have HX := hid (show (w.alloc (.cells #[.string ⟨#[108, 105, 116]⟩, .string nm, .int .i64 3, .int .i64 (n : Nat), .int .i64 pl, .slice none 0 0] 26)).heap[w.heap.size]? = some (.cells #[.string ⟨#[108, 105, 116]⟩, .string nm, .int .i64 3, .int .i64 (n : Nat), .int .i64 pl, .slice none 0 0] 26) from heap_alloc_new w _)
  obtain ⟨c0, c1, c2, c3, c4, c5, cz⟩ := B6.new w 26 (.string ⟨#[108, 105, 116]⟩) (.string nm) (.int .i64 3) (.int .i64 (n : Nat)) (.int .i64 pl) (.slice none 0 0)
  clear h hT B0
  go_enter Tryd.func19, Tryd.ntmps19
  go_upto_region 1 with fail
  generalize World.alloc w _ = w1 at *
  generalize w.heap.size = g at *
  have FE := hid (show l ++ litS 3 n = (l ++ [36]) ++ decU 100 n from by unfold litS; rw [if_neg (by decide), if_neg (by decide), if_pos rfl, List.append_assoc]; rfl)
  go_upto_region 9 with fail
  refine wp_region_held_drew (S := (fun W => W.cell? ⟨g, 3, none⟩ = some (.int .i64 (n : Nat)))) (by kernel_rfl) c3 (fun hHeld => ?_)
  have O0 := hid (show Ob w1.drew B v l from OB.out.next (Below.refl _ _).drew)
  have B0 := hid (show Wt B w w1.drew from BB.out.next OB.out.ba (Below.refl _ _).drew)
  have T0 := hid (TH.out.on (show Below B w1 w1.drew from (Below.refl _ _).drew))
  have H0 := hid (show w1.drew.heap[g]? = _ from HX.out)
  generalize w1.drew = wz at *
  refine take2 rfl (i := 0) (v := v) (d := 27) rfl rfl (by kernel_rfl) (by kernel_rfl) (by kernel_rfl) (fun _ _ _ h => h) (Or.inl ⟨by rfl, ?_⟩) hHeld ?_
  · (intro W hW; (try dsimp only at hW); go_simp)
  try simp only [Act.put, List.setIfInBounds_toArray, List.set_cons_zero, List.set_cons_succ]
  refine take2 rfl (i := 1) (v := .pointer (some ⟨g, 3, none⟩)) (d := 28) rfl rfl (by kernel_rfl) (by kernel_rfl) (by kernel_rfl) (fun _ _ _ h => h) (Or.inl ⟨by rfl, ?_⟩) hHeld ?_
  · (intro W hW; (try dsimp only at hW); go_simp)
  try simp only [Act.put, List.setIfInBounds_toArray, List.set_cons_zero, List.set_cons_succ]
  refine take2 rfl (i := 2) (v := .int .i64 (n : Nat)) (d := 29) rfl rfl (by kernel_rfl) (by kernel_rfl) (by kernel_rfl) (fun _ _ _ h => h) (Or.inl ⟨by rfl, ?_⟩) hHeld ?_
  · (intro W hW; (try dsimp only at hW); go_simp)
  try simp only [Act.put, List.setIfInBounds_toArray, List.set_cons_zero, List.set_cons_succ]
  refine take2 rfl (i := 6) (v := .pointer (some ⟨g, 3, none⟩)) (d := 33) rfl rfl (by kernel_rfl) (by kernel_rfl) (by kernel_rfl) (fun _ _ _ h => h) (Or.inl ⟨by rfl, ?_⟩) hHeld ?_
  · (intro W hW; (try dsimp only at hW); go_simp)
  try simp only [Act.put, List.setIfInBounds_toArray, List.set_cons_zero, List.set_cons_succ]
  refine take2 rfl (i := 7) (v := .int .i64 (n : Nat)) (d := 34) rfl rfl (by kernel_rfl) (by kernel_rfl) (by kernel_rfl) (fun _ _ _ h => h) (Or.inl ⟨by rfl, ?_⟩) hHeld ?_
  · (intro W hW; (try dsimp only at hW); go_simp)
  try simp only [Act.put, List.setIfInBounds_toArray, List.set_cons_zero, List.set_cons_succ]
  refine wpAnyH_ready (rs := [3]) (by kernel_rfl) (by simp) ?_
  refine cons2 rfl rfl (fun K9 hK => ?_)
  go_simp
  go_at_call 37
  refine Calls.mono (sign_pos n wz) ?_
  rintro e w5 ⟨rfl, rfl⟩
  go_wp2_with fail
  refine hK.out _ _ (hHeld) (fun hX => ?_)
  clear hK K9 hHeld
  have hHeld := hX
  clear hX
  try simp only [Act.put, List.setIfInBounds_toArray, List.set_cons_zero, List.set_cons_succ]
  refine take2 rfl (i := 4) (v := .string (⟨#[]⟩ ++ ⟨#[36]⟩)) (d := 31) rfl rfl (by kernel_rfl) (by kernel_rfl) (by kernel_rfl) (fun _ _ _ h => h) (Or.inl ⟨by rfl, ?_⟩) hHeld ?_
  · (intro W hW; (try dsimp only at hW); go_simp)
  try simp only [Act.put, List.setIfInBounds_toArray, List.set_cons_zero, List.set_cons_succ]
  refine wpAnyH_ready (rs := [5]) (by kernel_rfl) (by simp) ?_
  refine cons2 rfl rfl (fun K9 hK => ?_)
  rw [if_pos (by kernel_rfl)]
  refine wp_addS (.tmp 27) (.tmp 31) rfl B v l (⟨#[]⟩ ++ ⟨#[36]⟩) rfl O0.out rfl (by show l.length + 1 ≤ _; omega) ?_
  intro v2 w2 o2 b2
  rw [show (⟨#[]⟩ ++ ⟨#[36]⟩ : ByteArray).data.toList = [36] from by decide] at o2
  have O2 := hid o2
  have H2 := hid (box_wt H0.out b2)
  have C2 := hid (World.cell?_of_block (a := ⟨g, 3, none⟩) (H2.out.trans H0.out.symm))
  have T2 := hid (T0.out.on b2.bl)
  have BB2 := hid (B0.out.trans b2)
  clear o2 b2
  refine hK.out _ _ (C2.out.trans hHeld) (fun hX => ?_)
  clear hK K9 hHeld
  have hHeld := hX
  clear hX
  try simp only [Act.put, List.setIfInBounds_toArray, List.set_cons_zero, List.set_cons_succ]
  refine wpAnyH_ready (rs := [8]) (by kernel_rfl) (by simp) ?_
  refine cons2 rfl rfl (fun K9 hK => ?_)
  go_simp
  go_at_call 36
  refine Calls.mono (decimal_any B n 100 (l ++ [36]) v2 w2 (by omega) (by decide) (by decide) O2.out (by rw [List.length_append]; simp; omega) T2.out) ?_
  rintro e w5 ⟨v5, rfl, o5, b5⟩
  have O5 := hid o5
  have C5 := hid (World.cell?_of_block (a := ⟨g, 3, none⟩) ((box_wt H2.out b5).trans H2.out.symm))
  have BB5 := hid (BB2.out.trans b5)
  clear o5 b5
  go_wp2_with fail
  refine hK.out _ _ (C5.out.trans hHeld) (fun hX => ?_)
  clear hK K9 hHeld
  have hHeld := hX
  clear hX
  try simp only [Act.put, List.setIfInBounds_toArray, List.set_cons_zero, List.set_cons_succ]
  refine take2 rfl (i := 9) (v := v5) (d := 4) rfl rfl (by kernel_rfl) (by kernel_rfl) (by kernel_rfl) (fun _ _ _ h => h) (Or.inl ⟨by rfl, ?_⟩) hHeld ?_
  · (intro W hW; (try dsimp only at hW); go_simp)
  try simp only [Act.put, List.setIfInBounds_toArray, List.set_cons_zero, List.set_cons_succ]
  refine wpAnyH_done (by kernel_rfl) ?_ _
  go_wp2
  go_ret
  exact ⟨v5, rfl, by rw [FE.out]; exact O5.out, BB5.out⟩
end Go.Proofs.YtobolipjgkabhaaDoor
