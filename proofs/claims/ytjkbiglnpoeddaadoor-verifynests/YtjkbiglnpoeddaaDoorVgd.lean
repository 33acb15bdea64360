/- The walk over VerifyNests. -/
import Derived.Test.YtjkbiglnpoeddaaDoorVgc
namespace Go.Proofs.YtjkbiglnpoeddaaDoor.Vf
open Go.RowKit
set_option linter.unusedVariables false
set_option linter.unusedSimpArgs false

theorem nest_sm : ∀ n : Fin 15, (nestP n.val).co.all smN = true := by decide +kernel
theorem nest_rst : ∀ n : Fin 15, ((nestP n.val).co.all fun x => decide ((x.1 = 9 ∨ x.1 = 17 ∨ x.1 = 19 ∨ x.1 = 20 ∨ x.1 = 23) ∧ 0 ≤ x.2.1 ∧ x.2.1 ≤ 63)) = true := by decide +kernel
theorem nest_len : ∀ n : Fin 15, (slN n.val).length = 2 * n.val ∧ (nestP n.val).co.length = 2 * n.val + 1 ∧ ((slN n.val).all fun x => decide (0 ≤ x ∧ x ≤ 1000000)) = true := by decide +kernel
theorem fs_len (n : Nat) : ∀ i, (fsN n i).length = i
  | 0 => rfl
  | i + 1 => by show (fsN n i ++ _).length = _; rw [List.length_append, fs_len n i]; rfl
theorem nx_len (n : Nat) : ∀ i, (nxN n i).length = i
  | 0 => rfl
  | i + 1 => by show (nxN n i ++ _).length = _; rw [List.length_append, nx_len n i]; rfl
theorem sl_len : ∀ i, (slN i).length = 2 * i
  | 0 => rfl
  | i + 1 => by show (slN i ++ _).length = _; rw [List.length_append, sl_len i]; simp; omega
def fI1 (x : Int) : List Value := [.int .i64 x]
theorem info_Kd : (Tryd.prog.info? 38).map (fun i => (i.zero, i.size, i.bytes)) = some (some (.int .i64 0), 1, 8) := by kernel_rfl
theorem wpList_addK2 {w : World} {ops : Array Oper} {rest : List Oper} {o : Oper} {a : Act} {Q : Exit → Act → World → Prop} (hgd : o.guard = none) (sl x : Operand)
    (ho : o.op = .call { callee := .builtin .append, args := #[sl, x], argTypes := #[31, 31] }) (B : Nat) (v : Value) (xs : List Int) (y z : Int) (hs : a.eval sl = v) (hown : Qf 38 1 fI1 w B v xs) (g : Nat) (hx : a.eval x = .slice (some ⟨g, 0, none⟩) 2 2)
    (hc : ∀ j u, ([.int .i64 y, .int .i64 z] : List Value)[j]? = some u → w.cell? ⟨g, j, none⟩ = some u) (hl : xs.length ≤ 100000) (hB : B ≤ w.heap.size)
    (h : ∀ v' w', Qf 38 1 fI1 w' B v' (xs ++ [y, z]) → w.grownBy w' v.ownBlock → wpList Tryd.prog ops Q rest (a.put o.dst v') w') : wpList Tryd.prog ops Q (o :: rest) a w := by
  obtain ⟨i0, hi, hz0, hz1, hz2⟩ := info_parts info_Kd
  refine wpList_append_own w hgd sl x 31 ho B 38 i0 (.int .i64 0) 1 8 Tryd.underlying31 hi hz0 hz1 hz2 rfl (by decide) v xs.length (xs.flatMap fI1) hs hown ⟨g, 0, none⟩ 2 2 [.int .i64 y, .int .i64 z] hx rfl (fun j u hu => ?_) (fun u hu => by simp at hu; rcases hu with rfl | rfl <;> rfl) (by unfold maxLen; omega) (by omega) hB (fun v' w' h2 h3 _ => ?_)
  · rw [show (⟨g, 0, none⟩ : Addr).add j = ⟨g, j, none⟩ by unfold Addr.add; split <;> simp_all]
    exact hc j u hu
  · refine h v' w' ?_ h3
    show w'.ownsRow B 38 1 v' (xs ++ [y, z]).length ((xs ++ [y, z]).flatMap fI1)
    rw [List.length_append, List.flatMap_append, show [y, z].flatMap fI1 = [.int .i64 y, .int .i64 z] by simp [fI1]]
    exact h2
/-- A program that is being made. -/
structure NI (w wr : World) (pb gi B : Nat) (vs vc : Value) (sl : List Int) (co : List Ins) : Prop where
  bx : Bx wr pb 35 #[.slice none 0 0, .slice none 0 0, .slice (some ⟨gi, 0, none⟩) 1 1, .slice none 0 0, vs, .slice none 0 0, vc]
  rs : Qf 38 1 fI1 wr B vs sl
  rc : Qf 37 4 fN4 wr B vc co
  vi : wr.cell? ⟨gi, 0, none⟩ = some (.int .i64 6)
  bl : Below w.heap.size w wr
  lt : pb < B ∧ gi < B ∧ pb ≠ gi ∧ B ≤ wr.heap.size ∧ w.heap.size ≤ pb
theorem NI.next {w a b : World} {pb gi B : Nat} {vs vc : Value} {sl : List Int} {co : List Ins} (h : NI w a pb gi B vs vc sl co) (k : Below a.heap.size a b) : NI w b pb gi B vs vc sl co :=
  ⟨Bx.next h.bx k, h.rs.next k, h.rc.next k, celB k h.vi, nxB h.bl k, ⟨h.lt.1, h.lt.2.1, h.lt.2.2.1, Nat.le_trans h.lt.2.2.2.1 k.size, h.lt.2.2.2.2⟩⟩
theorem NI.boxS {w a b : World} {pb gi B : Nat} {vs vc : Value} {sl : List Int} {co : List Ins} (h : NI w a pb gi B vs vc sl co) (g : a.grownBy b vs.ownBlock) : Bx b pb 35 #[.slice none 0 0, .slice none 0 0, .slice (some ⟨gi, 0, none⟩) 1 1, .slice none 0 0, vs, .slice none 0 0, vc] :=
  ⟨by rw [g.block pb (Bx.lt h.bx) (fun e => by have := (h.rs.ty pb e.symm).1; have := h.lt.1; omega)]; exact h.bx.at_, h.bx.ty⟩
theorem NI.boxC {w a b : World} {pb gi B : Nat} {vs vc : Value} {sl : List Int} {co : List Ins} (h : NI w a pb gi B vs vc sl co) (g : a.grownBy b vc.ownBlock) : Bx b pb 35 #[.slice none 0 0, .slice none 0 0, .slice (some ⟨gi, 0, none⟩) 1 1, .slice none 0 0, vs, .slice none 0 0, vc] :=
  ⟨by rw [g.block pb (Bx.lt h.bx) (fun e => by have := (h.rc.ty pb e.symm).1; have := h.lt.1; omega)]; exact h.bx.at_, h.bx.ty⟩
theorem NI.putS {w a b : World} {pb gi B : Nat} {vs vc v' : Value} {sl sl' : List Int} {co : List Ins} (h : NI w a pb gi B vs vc sl co) (o : Qf 38 1 fI1 b B v' sl') (g : a.grownBy b vs.ownBlock) : NI w (b.setCell ⟨pb, 4, none⟩ v') pb gi B v' vc sl' co := by
  have hb := h.boxS g
  have hs := g.size
  refine ⟨Bx.set hb 4 v', o.but (grownBy_setCell b pb 4 v') h.lt.1, ?_, ?_, ?_, ⟨h.lt.1, h.lt.2.1, h.lt.2.2.1, by simp; exact Nat.le_trans h.lt.2.2.2.1 hs, h.lt.2.2.2.2⟩⟩
  · refine (h.rc.kept fun i hi l ht => g.block i l fun e => ?_ : Qf 37 4 fN4 b B vc co).but (grownBy_setCell b pb 4 v') h.lt.1
    obtain ⟨_, _, cs, fr, e1⟩ := h.rs.ty i e.symm
    obtain ⟨cs2, fr2, e2⟩ := ht
    rw [e1] at e2
    injection e2 with e2
    injection e2 with _ e2 _
    exact absurd e2 (by decide)
  · rw [cell_other (Or.inl h.lt.2.2.1)]
    exact (World.cell?_of_block (a := ⟨gi, 0, none⟩) (g.block gi (World.block_lt_of_cell? _ _ h.vi) (fun e => by have := (h.rs.ty gi e.symm).1; have := h.lt.2.1; omega))).trans h.vi
  · exact (((Kx.of [pb] (h.bl.grown g h.bl.size (fun k hk => by have := (h.rs.ty k hk).1; have := h.lt; omega)))).set (p := pb) (i := 4) v' (by simp)).bel (Nat.le_refl _) (fun i hi => by simp at hi; subst hi; exact h.lt.2.2.2.2)
theorem NI.putC {w a b : World} {pb gi B : Nat} {vs vc v' : Value} {sl : List Int} {co co' : List Ins} (h : NI w a pb gi B vs vc sl co) (o : Qf 37 4 fN4 b B v' co') (g : a.grownBy b vc.ownBlock) : NI w (b.setCell ⟨pb, 6, none⟩ v') pb gi B vs v' sl co' := by
  have hb := h.boxC g
  have hs := g.size
  refine ⟨Bx.set hb 6 v', ?_, o.but (grownBy_setCell b pb 6 v') h.lt.1, ?_, ?_, ⟨h.lt.1, h.lt.2.1, h.lt.2.2.1, by simp; exact Nat.le_trans h.lt.2.2.2.1 hs, h.lt.2.2.2.2⟩⟩
  · refine (h.rs.kept fun i hi l ht => g.block i l fun e => ?_ : Qf 38 1 fI1 b B vs sl).but (grownBy_setCell b pb 6 v') h.lt.1
    obtain ⟨_, _, cs, fr, e1⟩ := h.rc.ty i e.symm
    obtain ⟨cs2, fr2, e2⟩ := ht
    rw [e1] at e2
    injection e2 with e2
    injection e2 with _ e2 _
    exact absurd e2 (by decide)
  · rw [cell_other (Or.inl h.lt.2.2.1)]
    exact (World.cell?_of_block (a := ⟨gi, 0, none⟩) (g.block gi (World.block_lt_of_cell? _ _ h.vi) (fun e => by have := (h.rc.ty gi e.symm).1; have := h.lt.2.1; omega))).trans h.vi
  · exact (((Kx.of [pb] (h.bl.grown g h.bl.size (fun k hk => by have := (h.rc.ty k hk).1; have := h.lt; omega)))).set (p := pb) (i := 6) v' (by simp)).bel (Nat.le_refl _) (fun i hi => by simp at hi; subst hi; exact h.lt.2.2.2.2)
theorem ni_chk {w a : World} {pb gi B n : Nat} {vs vc : Value} {t u k r : Int} {b : Bool} (hn : n < 15) (h : NI w a pb gi B vs vc (slN n) (nestP n).co) (hT : RT a) (hck : ckR (lenS 1 0 (2 * n) 0 (2 * n + 1)) (nestP n) = ((t, u), (k, r), b)) :
    ∃ a4 l4 c4 a6 l6 c6, vs = .slice a4 l4 c4 ∧ vc = .slice a6 l6 c6 ∧ Hid (Calls Tryd.prog 6 #[.agg #[.slice none 0 0, .slice none 0 0, .slice (some ⟨gi, 0, none⟩) 1 1, .slice none 0 0, .slice a4 l4 c4, .slice none 0 0, .slice a6 l6 c6]] a fun e w' => e = .returned (.tuple #[.agg #[.int .i64 t, .int .i64 u], .agg #[.int .i64 k, .int .i64 r], .bool b]) ∧ Below a.heap.size a w') := by
  obtain ⟨l1, l2, l3⟩ := nest_len ⟨n, hn⟩
  have l1 : (slN n).length = 2 * n := l1
  have l2 : (nestP n).co.length = 2 * n + 1 := l2
  have l3 : ((slN n).all fun x => decide (0 ≤ x ∧ x ≤ 1000000)) = true := l3
  obtain ⟨a4, c4, e4, V4⟩ := h.rs.view (fun _ => rfl) (fun x => x) (A := aI) fun g p x hx hc => ⟨hc 0 _ rfl, by have ok := of_decide_eq_true (List.all_eq_true.1 l3 x hx); exact ok_small ok.1 ok.2⟩
  rw [List.map_id'] at V4
  obtain ⟨a6, c6, e6, V6⟩ := vw_own h.rc (nest_sm ⟨n, hn⟩)
  rw [l1] at e4 V4
  rw [l2] at e6 V6
  have V2 : Vw aI 1 a (some ⟨gi, 0, none⟩) 1 [6] := ⟨rfl, gi, 0, fun _ => rfl, fun i x hx => by
    match i, hx with
    | 0, hx => cases hx; exact ⟨h.vi, ok_small (by decide) (by decide)⟩⟩
  have K := chk (s := pgS (some ⟨gi, 0, none⟩) none a4 none a6 1 0 (2 * n) 0 (2 * n + 1) 1 0 c4 0 c6) (p := nestP n) ⟨Vw.empty _ _ _, Vw.empty _ _ _, V2, Vw.empty _ _ _, V4, Vw.empty _ _ _, V6⟩ hT rfl rfl (Nat.le_of_ble_eq_true rfl) (Nat.le_of_ble_eq_true rfl) (by show 2 * n ≤ _; omega) (by show 2 * n + 1 ≤ _; omega) hck (fun _ _ _ _ => rst_all (nest_rst ⟨n, hn⟩))
  exact ⟨a4, _, c4, a6, _, c6, e4, e6, hid K⟩
theorem bk_brk {n i : Nat} {s E : Int} (h : bkN n (n - i) i s = E) (hi : i < n) (hb : 4398046511104 < 1 + 16 * (s + 1)) : 1 + 16 * (s + 1) = E := by
  rw [show n - i = (n - (i + 1)) + 1 from by omega] at h
  unfold bkN at h
  rw [if_pos hi, if_pos hb] at h
  exact h
theorem bk_go {n i : Nat} {s E : Int} (h : bkN n (n - i) i s = E) (hi : i < n) (hb : ¬ 4398046511104 < 1 + 16 * (s + 1)) : bkN n (n - (i + 1)) (i + 1) (1 + 16 * (s + 1)) = E := by
  rw [show n - i = (n - (i + 1)) + 1 from by omega] at h
  unfold bkN at h
  rw [if_pos hi, if_neg hb] at h
  exact h
theorem bk_end {n : Nat} {s E : Int} (h : bkN n (n - n) n s = E) : s = E := by
  rw [Nat.sub_self] at h
  exact h
theorem nx_add (n k : Nat) (j : Int) (h : j = (n : Int) - 1 - (k : Int)) (hk : k < n) : fsN n n ++ nxN n (k + 1) = (fsN n n ++ nxN n k) ++ [(20, 0, 2 * j, j + 1)] := by
  show fsN n n ++ (nxN n k ++ [(20, 0, 2 * ((n - 1 - k : Nat) : Int), ((n - 1 - k : Nat) : Int) + 1)]) = _
  rw [show ((n - 1 - k : Nat) : Int) = j from by omega, List.append_assoc]
set_option maxRecDepth 100000 in
set_option maxHeartbeats 8000000 in
theorem nests_walk (w : World) (hT : RT w) (n : Int) : Calls Tryd.prog 4 #[.int .i64 n] w fun e w' => e = .returned (.bool true) ∧ Below w.heap.size w w' := by
  have T := hid hT
  have KW := hid (awake_any w hT)
  clear hT
  by_cases q : 0 ≤ n ∧ n ≤ 14
  · obtain ⟨N, rfl⟩ : ∃ N : Nat, n = N := ⟨n.toNat, by omega⟩
    have NL := hid (show N < 15 from by omega)
    have q1 : ¬ ((N : Int) < 0) := by omega
    have q2 : ¬ ((14 : Int) < (N : Int)) := by omega
    have q3 : (N : Int) ≤ 14 := by omega
    obtain ⟨E, hE⟩ : ∃ E, bkN N N 0 0 = E := ⟨_, rfl⟩
    have BE := hid hE
    have CK := hid (show ckR (lenS 1 0 (2 * N) 0 (2 * N + 1)) (nestP N) = (if 1099511627776 < E + 1 then ((0, 0), (-1, 7), false) else ((E + 1, 0), (0, 0), true)) from by rw [← hE]; exact ck_nest ⟨N, NL.out⟩)
    clear q hE
    go_enter Tryd.func4, Tryd.ntmps4
    go_upto_region 5 with (go_at_call 5; (with_reducible refine Calls.mono KW.out ?_); rintro e w1 ⟨rfl, b1⟩; have B1 := hid b1; clear b1)
    have A1 := allocB w1 (.cells #[.int .i64 6] 38)
    have ci := celB (allocB (w1.alloc (.cells #[.int .i64 6] 38)) (.cells #[.slice none 0 0, .slice none 0 0, .slice (some ⟨w1.heap.size, 0, none⟩) 1 1, .slice none 0 0, .slice none 0 0, .slice none 0 0, .slice none 0 0] 35)) (cells_new w1 [.int .i64 6] 38 0 _ rfl)
    have z1 : (w1.alloc (.cells #[.int .i64 6] 38)).heap.size = w1.heap.size + 1 := by simp
    have z2 : ((w1.alloc (.cells #[.int .i64 6] 38)).alloc (.cells #[.slice none 0 0, .slice none 0 0, .slice (some ⟨w1.heap.size, 0, none⟩) 1 1, .slice none 0 0, .slice none 0 0, .slice none 0 0, .slice none 0 0] 35)).heap.size = w1.heap.size + 1 + 1 := by simp
    have xb := Bx.new (w1.alloc (.cells #[.int .i64 6] 38)) #[.slice none 0 0, .slice none 0 0, .slice (some ⟨w1.heap.size, 0, none⟩) 1 1, .slice none 0 0, .slice none 0 0, .slice none 0 0, .slice none 0 0] 35 (by decide)
    rw [z1] at xb
    have I0 := hid (show NI w ((w1.alloc (.cells #[.int .i64 6] 38)).alloc (.cells #[.slice none 0 0, .slice none 0 0, .slice (some ⟨w1.heap.size, 0, none⟩) 1 1, .slice none 0 0, .slice none 0 0, .slice none 0 0, .slice none 0 0] 35)) (w1.heap.size + 1) w1.heap.size (w1.heap.size + 1 + 1) (.slice none 0 0) (.slice none 0 0) [] [] from ⟨xb, Qf.nil _ _ _ _ _, Qf.nil _ _ _ _ _, ci, nxB (nxB B1.out A1) (allocB _ _), by have := B1.out.size; omega⟩)
    clear z1 z2 xb ci A1
    go_wp2_with fail
    generalize World.alloc (World.alloc w1 _) _ = w2 at *
    generalize w1.heap.size + 1 + 1 = B at *
    generalize w1.heap.size + 1 = pb at *
    generalize w1.heap.size = gi at *
    go_loopg [4] N (fun g kv wr => ∃ i : Nat, i ≤ N ∧ g = N - i ∧ kv = .int .i64 (i : Nat) ∧ Hid (∃ vs vc, NI w wr pb gi B vs vc (slN i) (fsN N i)))
    case atStart => exact ⟨0, Nat.zero_le _, rfl, rfl, ⟨_, _, I0.out⟩⟩
    case round =>
      obtain ⟨i, hi, rfl, rfl, HI⟩ := hrel
      by_cases qi : i < N
      · have qi' : (i : Int) < (N : Int) := by omega
        have i14 : (i : Int) ≤ 14 := by omega
        obtain ⟨vs, vc, hI⟩ := HI.out
        obtain ⟨a0, c0, e0⟩ := hI.rs.slice
        obtain ⟨l0, hl0⟩ : ∃ l0, (slN i).length = l0 := ⟨_, rfl⟩
        rw [hl0] at e0
        subst e0
        clear hl0
        obtain ⟨a1, c1, e1⟩ := hI.rc.slice
        obtain ⟨l1, hl1⟩ : ∃ l1, (fsN N i).length = l1 := ⟨_, rfl⟩
        rw [hl1] at e1
        subst e1
        clear hl1
        have I1 := hid hI
        clear HI hI
        have A2 := allocB wr (.cells #[.int .i64 2, .int .i64 3] 38)
        have I2 := hid (I1.out.next A2)
        have C2 := hid (cells_new wr [.int .i64 2, .int .i64 3] 38)
        have x4 := I1.out.bx.cell 4 _ rfl
        have LS := hid (show (slN i).length ≤ 100000 from by rw [sl_len]; omega)
        clear A2
        go_upto_region 10 with (at_builtin; refine wpList_addK2 rfl (.tmp 27) (.tmp 28) rfl B _ (slN i) 2 3 rfl I2.out.rs wr.heap.size rfl C2.out LS.out I2.out.lt.2.2.2.1 ?_; intro v3 w3 o3 g3; obtain ⟨a3, c3, ev⟩ := o3.slice; obtain ⟨l3, hl3⟩ : ∃ l3, (slN i ++ [2, 3]).length = l3 := ⟨_, rfl⟩; rw [hl3] at ev; clear hl3; subst ev; have O3 := hid o3; have G3 := hid g3; have z4 := (I2.out.boxS g3).cell 4 _ rfl; have fz := Bx.fz2 (I2.out.boxS g3); clear o3 g3)
        have I3 := hid (show NI w _ pb gi B _ _ (slN (i + 1)) (fsN N i) from I2.out.putS O3.out G3.out)
        clear x4 z4 fz O3 G3 I2 C2 I1
        generalize World.setCell w3 ⟨pb, 4, none⟩ _ = w4 at *
        have A5 := allocB w4 (.cells (fN4 (19, 0, 2 * (i : Int), 2 * (N : Int) - (i : Int))).toArray 37)
        have I5 := hid (I3.out.next A5)
        have C5 := hid (cells_new w4 (fN4 (19, 0, 2 * (i : Int), 2 * (N : Int) - (i : Int))) 37)
        have x6 := I3.out.bx.cell 6 _ rfl
        have LC := hid (show (fsN N i).length ≤ 100000000 from by rw [fs_len]; omega)
        clear A5
        go_wp2_with (at_builtin; refine wpList_addQ 37 33 4 32 (.agg #[.int .i64 0, .int .i64 0, .int .i64 0, .int .i64 0]) fN4 rfl (.tmp 32) (.tmp 40) rfl Tryd.underlying33 info_Inv rfl (by decide) (by decide) (fun _ => rfl) B _ (fsN N i) (19, 0, 2 * (i : Int), 2 * (N : Int) - (i : Int)) rfl I5.out.rc (fun u hu => by simp [fN4] at hu; rcases hu with rfl | rfl | rfl | rfl <;> rfl) w4.heap.size rfl C5.out LC.out I5.out.lt.2.2.2.1 ?_; intro v6 w6 o6 g6; obtain ⟨a6, c6, ev⟩ := o6.slice; obtain ⟨l6, hl6⟩ : ∃ l6, (fsN N i ++ [((19 : Int), (0 : Int), 2 * (i : Int), 2 * (N : Int) - (i : Int))]).length = l6 := ⟨_, rfl⟩; rw [hl6] at ev; clear hl6; subst ev; have O6 := hid o6; have G6 := hid g6; have z6 := (I5.out.boxC g6).cell 6 _ rfl; have fz := Bx.fz2 (I5.out.boxC g6); clear o6 g6)
        have I6 := hid (show NI w _ pb gi B _ _ (slN (i + 1)) (fsN N (i + 1)) from I5.out.putC O6.out G6.out)
        go_roundg (N - (i + 1))
        case measure => omega
        case rel => exact ⟨i + 1, by omega, rfl, by rw [Int.natCast_add]; rfl, ⟨_, _, I6.out⟩⟩
      · have qi' : ¬ (i : Int) < (N : Int) := by omega
        have ei : i = N := by omega
        rw [ei] at HI
        go_upto_region 12 with fail
        go_loopg [5] N (fun g kv wr => ∃ (k : Nat) (j : Int), k ≤ N ∧ g = N - k ∧ kv = .int .i64 j ∧ Hid (j = (N : Int) - 1 - (k : Int)) ∧ Hid (∃ vs vc, NI w wr pb gi B vs vc (slN N) (fsN N N ++ nxN N k)))
        case atStart => exact ⟨0, _, Nat.zero_le _, rfl, rfl, hid (by omega), hid (by obtain ⟨vs, vc, hI⟩ := HI.out; exact ⟨vs, vc, by rw [show fsN N N ++ nxN N 0 = fsN N N from List.append_nil _]; exact hI⟩)⟩
        case round =>
          clear HI ei hi
          obtain ⟨k, j, hk, rfl, rfl, HJ, HI⟩ := hrel
          by_cases qk : k < N
          · have j0 : 0 ≤ j := by have := HJ.out; omega
            have j14 : j ≤ 13 := by have := HJ.out; omega
            obtain ⟨vs, vc, hI⟩ := HI.out
            obtain ⟨a0, c0, e0⟩ := hI.rs.slice
            obtain ⟨l0, hl0⟩ : ∃ l0, (slN N).length = l0 := ⟨_, rfl⟩
            rw [hl0] at e0
            subst e0
            clear hl0
            obtain ⟨a1, c1, e1⟩ := hI.rc.slice
            obtain ⟨l1, hl1⟩ : ∃ l1, (fsN N N ++ nxN N k).length = l1 := ⟨_, rfl⟩
            rw [hl1] at e1
            subst e1
            clear hl1
            have I1 := hid hI
            clear HI hI
            have A5 := allocB wr (.cells (fN4 (20, 0, 2 * j, j + 1)).toArray 37)
            have I5 := hid (I1.out.next A5)
            have C5 := hid (cells_new wr (fN4 (20, 0, 2 * j, j + 1)) 37)
            have x6 := I1.out.bx.cell 6 _ rfl
            have LC := hid (show (fsN N N ++ nxN N k).length ≤ 100000000 from by rw [List.length_append, fs_len, nx_len]; omega)
            clear A5
            go_wp2_with (at_builtin; refine wpList_addQ 37 33 4 32 (.agg #[.int .i64 0, .int .i64 0, .int .i64 0, .int .i64 0]) fN4 rfl (.tmp 50) (.tmp 56) rfl Tryd.underlying33 info_Inv rfl (by decide) (by decide) (fun _ => rfl) B _ (fsN N N ++ nxN N k) (20, 0, 2 * j, j + 1) rfl I5.out.rc (fun u hu => by simp [fN4] at hu; rcases hu with rfl | rfl | rfl | rfl <;> rfl) wr.heap.size rfl C5.out LC.out I5.out.lt.2.2.2.1 ?_; intro v6 w6 o6 g6; obtain ⟨a6, c6, ev⟩ := o6.slice; obtain ⟨l6, hl6⟩ : ∃ l6, (fsN N N ++ nxN N k ++ [((20, 0, 2 * j, j + 1) : Ins)]).length = l6 := ⟨_, rfl⟩; rw [hl6] at ev; clear hl6; subst ev; have O6 := hid o6; have G6 := hid g6; have z6 := (I5.out.boxC g6).cell 6 _ rfl; have fz := Bx.fz2 (I5.out.boxC g6); clear o6 g6)
            have I6 := hid (show NI w _ pb gi B _ _ (slN N) (fsN N N ++ nxN N (k + 1)) from by rw [nx_add N k j HJ.out qk]; exact I5.out.putC O6.out G6.out)
            go_roundg (N - (k + 1))
            case measure => omega
            case rel => exact ⟨k + 1, _, by omega, rfl, rfl, hid (by have := HJ.out; omega), ⟨_, _, I6.out⟩⟩
          · have j0 : j < 0 := by have := HJ.out; omega
            have j0' : ¬ 0 ≤ j := by omega
            have ek : k = N := by omega
            rw [ek] at HI
            clear HJ qk hk
            obtain ⟨vs, vc, hI⟩ := HI.out
            obtain ⟨a0, c0, e0⟩ := hI.rs.slice
            obtain ⟨l0, hl0⟩ : ∃ l0, (slN N).length = l0 := ⟨_, rfl⟩
            rw [hl0] at e0
            subst e0
            clear hl0
            obtain ⟨a1, c1, e1⟩ := hI.rc.slice
            obtain ⟨l1, hl1⟩ : ∃ l1, (fsN N N ++ nxN N N).length = l1 := ⟨_, rfl⟩
            rw [hl1] at e1
            subst e1
            clear hl1
            have I1 := hid hI
            clear HI hI
            have A5 := allocB wr (.cells (fN4 (23, 0, 0, 0)).toArray 37)
            have I5 := hid (I1.out.next A5)
            have C5 := hid (cells_new wr (fN4 (23, 0, 0, 0)) 37)
            have x6 := I1.out.bx.cell 6 _ rfl
            have LC := hid (show (fsN N N ++ nxN N N).length ≤ 100000000 from by rw [List.length_append, fs_len, nx_len]; omega)
            clear A5
            go_upto_region 16 with (at_builtin; refine wpList_addQ 37 33 4 32 (.agg #[.int .i64 0, .int .i64 0, .int .i64 0, .int .i64 0]) fN4 rfl (.tmp 60) (.tmp 62) rfl Tryd.underlying33 info_Inv rfl (by decide) (by decide) (fun _ => rfl) B _ (fsN N N ++ nxN N N) (23, 0, 0, 0) rfl I5.out.rc (fun u hu => by simp [fN4] at hu; rcases hu with rfl | rfl | rfl | rfl <;> rfl) wr.heap.size rfl C5.out LC.out I5.out.lt.2.2.2.1 ?_; intro v6 w6 o6 g6; obtain ⟨a6, c6, ev⟩ := o6.slice; obtain ⟨l6, hl6⟩ : ∃ l6, (fsN N N ++ nxN N N ++ [((23, 0, 0, 0) : Ins)]).length = l6 := ⟨_, rfl⟩; rw [hl6] at ev; clear hl6; subst ev; have O6 := hid o6; have G6 := hid g6; have z6 := (I5.out.boxC g6).cell 6 _ rfl; have fz := Bx.fz2 (I5.out.boxC g6); clear o6 g6)
            have HI := hid (show ∃ vs vc, NI w _ pb gi B vs vc (slN N) (nestP N).co from ⟨_, _, I5.out.putC O6.out G6.out⟩)
            clear I1 I5 C5 x6 LC O6 G6 z6 fz ek j0 j0'
            generalize World.setCell w6 ⟨pb, 6, none⟩ _ = w9 at *
            go_upto_region 18 with fail
            go_loopg [7, 6] N (fun g iv sv wr => ∃ (i : Nat) (s : Int), i ≤ N ∧ g = N - i ∧ iv = .int .i64 (i : Nat) ∧ sv = .int .i64 s ∧ 0 ≤ s ∧ s ≤ 4398046511104 ∧ Hid (bkN N (N - i) i s = E) ∧ Hid (∃ vs vc, NI w wr pb gi B vs vc (slN N) (nestP N).co))
            case atStart => exact ⟨0, 0, Nat.zero_le _, rfl, rfl, rfl, by decide, by decide, BE, HI⟩
            case round =>
              clear HI
              obtain ⟨i, s, hi, rfl, rfl, rfl, s0, s1, HB, HI⟩ := hrel
              by_cases qi : i < N
              · have qi' : (i : Int) < (N : Int) := by omega
                have i14 : (i : Int) ≤ 14 := by omega
                by_cases qb : 4398046511104 < 1 + 16 * (s + 1)
                · have CKB := hid (show ckR (lenS 1 0 (2 * N) 0 (2 * N + 1)) (nestP N) = ((0, 0), (-1, 7), false) from by rw [CK.out, if_pos (by have := bk_brk HB.out qi qb; omega)])
                  have qx : 1099511627776 < 1 + 16 * (s + 1) + 1 := by omega
                  go_upto_region 23 with fail
                  clear HB BE CK
                  obtain ⟨vs, vc, hI⟩ := HI.out
                  obtain ⟨a4, l4, c4, a6, l6, c6, ev4, ev6, KC⟩ := ni_chk NL.out hI (T.out.next hI.bl) CKB.out
                  subst ev4 ev6
                  have BA := hid hI.bl
                  have X9 := hid hI.bx
                  clear HI hI CKB
                  have x0 := X9.out.cell 0 _ rfl
                  have x1 := X9.out.cell 1 _ rfl
                  have x2 := X9.out.cell 2 _ rfl
                  have x3 := X9.out.cell 3 _ rfl
                  have x4 := X9.out.cell 4 _ rfl
                  have x5 := X9.out.cell 5 _ rfl
                  have x6 := X9.out.cell 6 _ rfl
                  go_upto_region 24 with (go_at_call 6; (with_reducible refine Calls.mono KC.out ?_); rintro e v9 ⟨rfl, b9⟩; have BM := hid (nxB BA.out b9); clear b9)
                  clear x0 x1 x2 x3 x4 x5 x6
                  have TW := hid (tw2 v9 (.int .i64 0) (.int .i64 0) (.int .i64 (-1)) (.int .i64 7))
                  have BO := hid (nxB BM.out TW.out.2.2)
                  obtain ⟨g0, g1⟩ := Bx.q2 TW.out.1
                  obtain ⟨g2, g3⟩ := Bx.q2 TW.out.2.1
                  clear TW KC BA BM X9
                  generalize World.alloc (World.alloc v9 _) _ = wf at *
                  generalize v9.heap.size + 1 = fe at *
                  generalize v9.heap.size = be at *
                  go_wp2_with fail
                  go_ret
                  exact ⟨rfl, BO.out⟩
                · go_wp2_with fail
                  go_roundg (N - (i + 1))
                  case measure => omega
                  case rel => exact ⟨i + 1, 1 + 16 * (s + 1), by omega, rfl, by rw [Int.natCast_add]; rfl, rfl, by omega, by omega, hid (bk_go HB.out qi (by omega)), HI⟩
              · have qi' : ¬ (i : Int) < (N : Int) := by omega
                have ei : i = N := by omega
                rw [ei] at HB
                have es := bk_end HB.out
                by_cases qx : 1099511627776 < s + 1
                · have CKB := hid (show ckR (lenS 1 0 (2 * N) 0 (2 * N + 1)) (nestP N) = ((0, 0), (-1, 7), false) from by rw [CK.out, if_pos (by omega)])
                  clear es HB BE CK ei
                  go_upto_region 23 with fail
                  obtain ⟨vs, vc, hI⟩ := HI.out
                  obtain ⟨a4, l4, c4, a6, l6, c6, ev4, ev6, KC⟩ := ni_chk NL.out hI (T.out.next hI.bl) CKB.out
                  subst ev4 ev6
                  have BA := hid hI.bl
                  have X9 := hid hI.bx
                  clear HI hI CKB
                  have x0 := X9.out.cell 0 _ rfl
                  have x1 := X9.out.cell 1 _ rfl
                  have x2 := X9.out.cell 2 _ rfl
                  have x3 := X9.out.cell 3 _ rfl
                  have x4 := X9.out.cell 4 _ rfl
                  have x5 := X9.out.cell 5 _ rfl
                  have x6 := X9.out.cell 6 _ rfl
                  go_upto_region 24 with (go_at_call 6; (with_reducible refine Calls.mono KC.out ?_); rintro e v9 ⟨rfl, b9⟩; have BM := hid (nxB BA.out b9); clear b9)
                  clear x0 x1 x2 x3 x4 x5 x6
                  have TW := hid (tw2 v9 (.int .i64 0) (.int .i64 0) (.int .i64 (-1)) (.int .i64 7))
                  have BO := hid (nxB BM.out TW.out.2.2)
                  obtain ⟨g0, g1⟩ := Bx.q2 TW.out.1
                  obtain ⟨g2, g3⟩ := Bx.q2 TW.out.2.1
                  clear TW KC BA BM X9
                  generalize World.alloc (World.alloc v9 _) _ = wf at *
                  generalize v9.heap.size + 1 = fe at *
                  generalize v9.heap.size = be at *
                  go_wp2_with fail
                  go_ret
                  exact ⟨rfl, BO.out⟩
                · have CKB := hid (show ckR (lenS 1 0 (2 * N) 0 (2 * N + 1)) (nestP N) = ((s + 1, 0), (0, 0), true) from by rw [CK.out, if_neg (by omega), es])
                  clear es HB BE CK ei
                  go_upto_region 23 with fail
                  obtain ⟨vs, vc, hI⟩ := HI.out
                  obtain ⟨a4, l4, c4, a6, l6, c6, ev4, ev6, KC⟩ := ni_chk NL.out hI (T.out.next hI.bl) CKB.out
                  subst ev4 ev6
                  have BA := hid hI.bl
                  have X9 := hid hI.bx
                  clear HI hI CKB
                  have x0 := X9.out.cell 0 _ rfl
                  have x1 := X9.out.cell 1 _ rfl
                  have x2 := X9.out.cell 2 _ rfl
                  have x3 := X9.out.cell 3 _ rfl
                  have x4 := X9.out.cell 4 _ rfl
                  have x5 := X9.out.cell 5 _ rfl
                  have x6 := X9.out.cell 6 _ rfl
                  go_upto_region 24 with (go_at_call 6; (with_reducible refine Calls.mono KC.out ?_); rintro e v9 ⟨rfl, b9⟩; have BM := hid (nxB BA.out b9); clear b9)
                  clear x0 x1 x2 x3 x4 x5 x6
                  have TW := hid (tw2 v9 (.int .i64 (s + 1)) (.int .i64 0) (.int .i64 0) (.int .i64 0))
                  have BO := hid (nxB BM.out TW.out.2.2)
                  obtain ⟨g0, g1⟩ := Bx.q2 TW.out.1
                  obtain ⟨g2, g3⟩ := Bx.q2 TW.out.2.1
                  clear TW KC BA BM X9
                  generalize World.alloc (World.alloc v9 _) _ = wf at *
                  generalize v9.heap.size + 1 = fe at *
                  generalize v9.heap.size = be at *
                  go_wp2_with fail
                  go_ret
                  exact ⟨rfl, BO.out⟩
  · by_cases q1 : n < 0
    · clear q
      go_enter Tryd.func4, Tryd.ntmps4
      go_upto_region 3 with (go_at_call 5; (with_reducible refine Calls.mono KW.out ?_); rintro e w1 ⟨rfl, b1⟩; have B1 := hid b1; clear b1)
      go_wp2_with fail
      go_ret
      exact ⟨rfl, B1.out⟩
    · have q2 : 14 < n := by omega
      clear q
      go_enter Tryd.func4, Tryd.ntmps4
      go_upto_region 3 with (go_at_call 5; (with_reducible refine Calls.mono KW.out ?_); rintro e w1 ⟨rfl, b1⟩; have B1 := hid b1; clear b1)
      go_wp2_with fail
      go_ret
      exact ⟨rfl, B1.out⟩

end Go.Proofs.YtjkbiglnpoeddaaDoor.Vf
