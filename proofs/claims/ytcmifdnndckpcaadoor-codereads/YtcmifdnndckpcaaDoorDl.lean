/- The walks over code's readers: tables. -/
import Derived.Test.YtcmifdnndckpcaaDoorDk
namespace Go.Proofs.YtcmifdnndckpcaaDoor
open Go.RowKit
set_option linter.unusedVariables false
set_option linter.unusedSimpArgs false

theorem own_two {α β : Type} {w : World} {T U : TypeId} {k m B C : Nat} {f : α → List Value} {g : β → List Value} {v u : Value} {xs : List α} {ys : List β} (h : Qf T k f w B v xs) (n : Qf U m g w C u ys) (hne : T ≠ U) {w' : World} (g5 : w.grownBy w' u.ownBlock) : Qf T k f w' B v xs :=
  h.kept fun i _ l ⟨cs, fr, e⟩ => g5.block i l (fun e2 => by
    obtain ⟨_, _, cs2, fr2, e3⟩ := n.ty i e2.symm
    rw [e] at e3
    injection e3 with e3
    injection e3 with _ e3 _
    exact hne e3)
theorem Qf.slice3 {α : Type} {T : TypeId} {k : Nat} {f : α → List Value} {w : World} {B : Nat} {v : Value} {xs : List α} (h : Qf T k f w B v xs) : ∃ a m c, v = .slice a m c := by
  obtain ⟨a, c, e⟩ := h.slice
  exact ⟨a, _, c, e⟩
theorem QT.add {w w' : World} {B : Nat} {v v' : Value} {R : List ((Int × Int × List Int × List Int) × Value × Value)} {xs : List (Int × Int × List Int × List Int)} {y : (Int × Int × List Int × List Int) × Value × Value} (h : Qf 59 4 fT w B v R) (hR : R.map Prod.fst = xs)
    (hr : ∀ r ∈ R, Qf 2 1 fI w B r.2.1 r.1.2.2.1 ∧ Qf 2 1 fI w B r.2.2 r.1.2.2.2) (h1 : Qf 2 1 fI w B y.2.1 y.1.2.2.1) (h2 : Qf 2 1 fI w B y.2.2 y.1.2.2.2)
    (o : Qf 59 4 fT w' B v' (R ++ [y])) (g : w.grownBy w' v.ownBlock) : QT w' B v' (xs ++ [y.1]) := by
  refine ⟨R ++ [y], by rw [List.map_append, hR]; rfl, o, fun r hm => ?_⟩
  simp at hm
  rcases hm with hm | rfl
  · exact ⟨own_two (hr r hm).1 h (by decide) g, own_two (hr r hm).2 h (by decide) g⟩
  · exact ⟨own_two h1 h (by decide) g, own_two h2 h (by decide) g⟩
theorem Qf.set {α : Type} {T : TypeId} {k : Nat} {f : α → List Value} {w : World} {B r i : Nat} {v : Value} {xs : List α} (h : Qf T k f w B v xs) (u : Value) (hr : r < B) : Qf T k f (w.setCell ⟨r, i, none⟩ u) B v xs := h.but (grownBy_setCell w r i u) hr
set_option maxRecDepth 100000 in
set_option maxHeartbeats 8000000 in
theorem code_readTable_any {w : World} {p q : Nat} {s : Sr} (h : Rd w p q s.2 s.1) (hn : s.1.length ≤ 15000000) (hq : q < w.heap.size) :
    Calls Tryd.prog 51 #[.pointer (some ⟨p, 0, none⟩)] w fun e w' => ∃ v1 v2, e = .returned (.agg #[.int .i64 ((cT false).rd s).1.1, .int .i64 ((cT false).rd s).1.2.1, v1, v2]) ∧ Qf 2 1 fI w' w.heap.size v1 ((cT false).rd s).1.2.2.1 ∧ Qf 2 1 fI w' w.heap.size v2 ((cT false).rd s).1.2.2.2 ∧ Rp w w' p q ((cT false).rd s).2 := by
  have hp := h.lt
  have R0 := hid (show Rp w (w.alloc (.cells #[.int .i64 0, .int .i64 0, .slice none 0 0, .slice none 0 0] 59)) p q s from ⟨h.below (allocB w _), fr_below ⟨rfl, rfl, rfl, Nat.le_refl _, fun _ _ _ => rfl⟩ (allocB w _)⟩)
  have X0 := hid (Bx.new w #[.int .i64 0, .int .i64 0, .slice none 0 0, .slice none 0 0] 59 (by decide))
  have PR := hid (And.intro hp hq)
  have D0 := hid hn
  obtain ⟨r, hr⟩ : ∃ r, r = w.heap.size := ⟨_, rfl⟩
  have WR := hid hr
  rw [← hr] at X0
  have NE := hid (show r ≠ p ∧ r ≠ q from by omega)
  clear h hn hp hq hr
  go_enter Tryd.func51, Tryd.ntmps51
  go_upto_region 1 with fail
  rw [← WR.out]
  generalize World.alloc w _ = w0 at *
  have K1 := hid (rnKind_any R0.out.rd (by have := D0.out; omega))
  have D1 := hid (show (cI.rd s).2.1.length ≤ 15000000 from Nat.le_trans (cI_good.down s) D0.out)
  go_wp2_with fail
  (with_reducible refine Calls.mono K1.out ?_)
  rintro e w1 ⟨rfl, r1⟩
  have T1 := hid r1
  have R1 := hid (Rp.mk T1.out.rd (grownBy_trans R0.out.fr T1.out.fr))
  have X1 := hid (X0.out.but T1.out.fr NE.out.1.symm)
  clear r1 K1
  have K2 := hid (rnKind_any R1.out.rd (by have := D1.out; omega))
  have D2 := hid (show (cI.rd (cI.rd s).2).2.1.length ≤ 15000000 from Nat.le_trans (cI_good.down (cI.rd s).2) D1.out)
  go_wp2_with fail
  (with_reducible refine Calls.mono K2.out ?_)
  rintro e w2 ⟨rfl, r1⟩
  have T2 := hid r1
  have R2 := hid (Rp.mk T2.out.rd (grownBy_trans R1.out.fr T2.out.fr))
  have X2 := hid (X1.out.but T2.out.fr NE.out.1.symm)
  clear r1 K2
  have K3 := hid (rlI64_any R2.out.rd D2.out (Nat.lt_of_lt_of_le PR.out.2 R2.out.fr.size))
  have D3 := hid (show ((cL false cI).rd (cI.rd (cI.rd s).2).2).2.1.length ≤ 15000000 from Nat.le_trans ((cL_good cI_good).down (cI.rd (cI.rd s).2).2) D2.out)
  go_wp2_with fail
  (with_reducible refine Calls.mono K3.out ?_)
  rintro e w3 ⟨v3, rfl, q3, r1⟩
  have T3 := hid r1
  have Q3 := hid q3
  have R3 := hid (Rp.mk T3.out.rd (grownBy_trans R2.out.fr T3.out.fr))
  have X3 := hid (X2.out.but T3.out.fr NE.out.1.symm)
  have B3 := hid (show r < w2.heap.size from (Array.getElem?_eq_some_iff.1 X2.out.at_).1)
  clear r1 K3 q3
  have K4 := hid (rlI64_any R3.out.rd D3.out (Nat.lt_of_lt_of_le PR.out.2 R3.out.fr.size))
  have D4 := hid (show ((cL false cI).rd ((cL false cI).rd (cI.rd (cI.rd s).2).2).2).2.1.length ≤ 15000000 from Nat.le_trans ((cL_good cI_good).down ((cL false cI).rd (cI.rd (cI.rd s).2).2).2) D3.out)
  go_wp2_with fail
  (with_reducible refine Calls.mono K4.out ?_)
  rintro e w4 ⟨v4, rfl, q4, r1⟩
  have T4 := hid r1
  have Q4 := hid q4
  have R4 := hid (Rp.mk T4.out.rd (grownBy_trans R3.out.fr T4.out.fr))
  have X4 := hid (X3.out.but T4.out.fr NE.out.1.symm)
  have B4 := hid (show r < w3.heap.size from (Array.getElem?_eq_some_iff.1 X3.out.at_).1)
  clear r1 K4 q4
  replace Q3 := hid (Q3.out.but T4.out.fr (Nat.lt_of_lt_of_le PR.out.1 R2.out.fr.size))
  have d0 := X4.out.cell 0 _ rfl
  have d1 := X4.out.cell 1 _ rfl
  have d2 := X4.out.cell 2 _ rfl
  have d3 := X4.out.cell 3 _ rfl
  have fz := X4.out.fz
  have S := hid (set4 (.int .i64 (cI.rd s).1) (.int .i64 (cI.rd (cI.rd s).2).1) v3 v4 d0 d1 d2 d3)
  have RF := hid (show Qf 2 1 fI ((((w4.setCell ⟨r, 0, none⟩ (.int .i64 (cI.rd s).1)).setCell ⟨r, 1, none⟩ (.int .i64 (cI.rd (cI.rd s).2).1)).setCell ⟨r, 2, none⟩ v3).setCell ⟨r, 3, none⟩ v4) w.heap.size v3 ((cT false).rd s).1.2.2.1 ∧ Qf 2 1 fI ((((w4.setCell ⟨r, 0, none⟩ (.int .i64 (cI.rd s).1)).setCell ⟨r, 1, none⟩ (.int .i64 (cI.rd (cI.rd s).2).1)).setCell ⟨r, 2, none⟩ v3).setCell ⟨r, 3, none⟩ v4) w.heap.size v4 ((cT false).rd s).1.2.2.2 ∧ Rp w ((((w4.setCell ⟨r, 0, none⟩ (.int .i64 (cI.rd s).1)).setCell ⟨r, 1, none⟩ (.int .i64 (cI.rd (cI.rd s).2).1)).setCell ⟨r, 2, none⟩ v3).setCell ⟨r, 3, none⟩ v4) p q ((cT false).rd s).2 from ⟨((((Q3.out.set _ B3.out).set _ B3.out).set _ B3.out).set _ B3.out).mono R2.out.fr.size, ((((Q4.out.set _ B4.out).set _ B4.out).set _ B4.out).set _ B4.out).mono R3.out.fr.size, ((((R4.out.rd.set _ NE.out.1 NE.out.2).set _ NE.out.1 NE.out.2).set _ NE.out.1 NE.out.2).set _ NE.out.1 NE.out.2), (fr_set (fr_set (fr_set (fr_set R4.out.fr _ (Nat.le_of_eq WR.out.symm)) _ (Nat.le_of_eq WR.out.symm)) _ (Nat.le_of_eq WR.out.symm)) _ (Nat.le_of_eq WR.out.symm))⟩)
  obtain ⟨a3, c3, e3⟩ := Q3.out.slice
  obtain ⟨a4, c4, e4⟩ := Q4.out.slice
  subst e3 e4
  go_wp2_with fail
  clear fz d0 d1 d2 d3
  generalize ((((w4.setCell ⟨r, 0, none⟩ (.int .i64 (cI.rd s).1)).setCell ⟨r, 1, none⟩ (.int .i64 (cI.rd (cI.rd s).2).1)).setCell ⟨r, 2, none⟩ (.slice a3 _ c3)).setCell ⟨r, 3, none⟩ (.slice a4 _ c4)) = wf at *
  obtain ⟨f0, f1, f2, f3⟩ := S.out
  try simp only [Exit.inBlock, Exit.then]
  refine bodyPost_ret (by simp [results, Tryd.results51, go_sem, f0, f1, f2, f3]; try rfl) rfl ?_
  exact ⟨_, _, rfl, RF.out⟩
set_option maxRecDepth 100000 in
set_option maxHeartbeats 8000000 in
theorem rlTab_any {w : World} {p q : Nat} {s : Sr} (h : Rd w p q s.2 s.1) (hn : s.1.length ≤ 15000000) (hq : q < w.heap.size) :
    Calls Tryd.prog 50 #[.pointer (some ⟨p, 0, none⟩), .func (.func 51) #[] #[]] w fun e w' => ∃ v, e = .returned v ∧ QT w' w.heap.size v ((cL false (cT false)).rd s).1 ∧ Rp w w' p q ((cL false (cT false)).rd s).2 := by
  have E : (cL false (cT false)).rd s = rdN (cT false) (rU s.1) (rR s.1, s.2 || rB s.1) := by
    show rdN (cT false) (cnt false s).1 (cnt false s).2 = _
    rw [cnt_yes (by simp)]
  rw [E]
  have hp := h.lt
  have PQ := hid (And.intro hp hq)
  have K := hid (RU_any p q s.2 s.1 w h (by omega))
  have nb : rU s.1 < 18446744073709551616 := by
    obtain ⟨a, n, c, _, y, _⟩ := h.ex
    exact rU_lt y.ok
  have LN := hid (show (rR s.1).length ≤ 15000000 from Nat.le_trans (rR_len _) hn)
  clear h hn hp hq E
  generalize rU s.1 = N0 at *
  generalize rR s.1 = l0 at *
  generalize (s.2 || rB s.1) = b0 at *
  go_enter Tryd.func50, Tryd.ntmps50
  go_wp2_with (go_at_call 70; (with_reducible refine Calls.mono K.out ?_); rintro e w1 ⟨rfl, r1, g1⟩)
  have I1 := hid (show RL QT (cT false) w w1 p q (.slice none 0 0) [] (l0, b0) l0.length from ⟨r1, g1, QT.nil _ _, by simp⟩)
  clear r1 g1 K
  go_loopg [5, 6] N0 (fun g iv nv wr => ∃ (k : Nat) (xs : List (Int × Int × List Int × List Int)) (t : Sr), nv = .int .u64 k ∧ g = k ∧ k ≤ N0 ∧ Hid (RL QT (cT false) w wr p q iv xs t l0.length) ∧ Hid (rdN (cT false) N0 (l0, b0) = (xs ++ (rdN (cT false) k t).1, (rdN (cT false) k t).2)))
  case atStart => exact ⟨N0, [], (l0, b0), rfl, rfl, Nat.le_refl _, I1, hid (by simp)⟩
  case round =>
    obtain ⟨k0, xs, t, rfl, rfl, hk, hI, hE⟩ := hrel
    clear I1
    cases gk with
    | zero =>
      have E0 := hid (show rdN (cT false) N0 (l0, b0) = (xs, t) from by rw [hE.out]; simp [rdN])
      clear hE
      go_wp2_with fail
      go_ret
      rw [E0.out]
      exact ⟨_, rfl, hI.out.row, hI.out.rd, hI.out.fr⟩
    | succ k =>
      have kp : (0 : Int) < (k : Int) + 1 := by omega
      obtain ⟨l, b⟩ := t
      cases b with
      | true =>
        have KB := hid (RBad_any p q true l wr hI.out.rd)
        have E0 := hid (show rdN (cT false) N0 (l0, b0) = (xs, (l, true)) from by rw [hE.out, rdN_bad _ _ _ rfl]; simp)
        clear hE
        go_wp2_with (go_at_call 71; (with_reducible refine Calls.mono KB.out ?_); rintro e wb ⟨rfl, rfl⟩)
        go_ret
        rw [E0.out]
        exact ⟨_, rfl, hI.out.row, hI.out.rd, hI.out.fr⟩
      | false =>
        have KB := hid (RBad_any p q false l wr hI.out.rd)
        have LL := hid (show l.length ≤ 15000000 from by have h1 := hI.out.len; have h2 := LN.out; simp at h1; omega)
        have LX := hid (show xs.length ≤ 15000001 from by have h1 := hI.out.len; have h2 := LN.out; simp at h1; omega)
        have KI := hid (code_readTable_any (s := (l, false)) hI.out.rd (by have := LL.out; simp only; omega) (Nat.lt_of_lt_of_le PQ.out.2 hI.out.fr.size))
        have E1 := hid (rl_eq hE.out)
        have N1 := hid (rl_len (cT_good false) hI.out.len)
        have sz := hI.out.fr.size
        clear hE
        go_wp2_with (go_at_call 71; (with_reducible refine Calls.mono KB.out ?_); rintro e wb ⟨rfl, rfl⟩)
        (with_reducible refine Calls.mono KI.out ?_)
        rintro e w4 ⟨v1, v2, rfl, n1, n2, r4⟩
        have R4 := hid r4
        have N4 := hid (And.intro n1 n2)
        obtain ⟨R, hR1, hR2, hR3⟩ := (hI.out.row.but r4.fr PQ.out.1).ex
        obtain ⟨a1, m1, c1, e1⟩ := n1.slice3
        obtain ⟨a2, m2, c2, e2⟩ := n2.slice3
        have O4 := hid (hR2.next (allocB w4 (.cells (fT (((cT false).rd (l, false)).1, Value.slice a1 m1 c1, Value.slice a2 m2 c2)).toArray 59)))
        have C4 := hid (cells_new w4 (fT (((cT false).rd (l, false)).1, Value.slice a1 m1 c1, Value.slice a2 m2 c2)) 59)
        have Z4 := hid (show w.heap.size ≤ (w4.alloc (.cells (fT (((cT false).rd (l, false)).1, Value.slice a1 m1 c1, Value.slice a2 m2 c2)).toArray 59)).heap.size from by have := hI.out.fr.size; have := r4.fr.size; simp; omega)
        have H1 := hid (show ∀ u ∈ fT (((cT false).rd (l, false)).1, Value.slice a1 m1 c1, Value.slice a2 m2 c2), u.oneCell' = true from fun u hu => by
          simp [fT] at hu
          rcases hu with rfl | rfl | rfl | rfl <;> rfl)
        have R3 := hid (And.intro hR1 hR3)
        have LR := hid (show R.length ≤ 15000001 from by have := LX.out; rw [← hR1, List.length_map] at this; exact this)
        subst e1 e2
        clear r4 KI KB sz hR1 hR2 hR3 n1 n2
        go_wp2_with (at_builtin; refine wpList_addQ 59 24 4 64 (.agg #[.int .i64 0, .int .i64 0, .slice none 0 0, .slice none 0 0]) fT rfl (.tmp 18) (.tmp 22) rfl Tryd.underlying24 info_Tab rfl (by decide) (by decide) (fun _ => rfl) w.heap.size _ R _ rfl O4.out H1.out w4.heap.size rfl C4.out (by have := LR.out; omega) Z4.out ?_; intro v5 w5 o5 g5)
        have O5 := hid o5
        have G5 := hid g5
        clear o5 g5
        go_roundg k
        case measure => omega
        case rel =>
          have ty := O4.out.ty
          have al := allocB w4 (.cells (fT (((cT false).rd (l, false)).1, Value.slice a1 m1 c1, Value.slice a2 m2 c2)).toArray 59)
          have F4 := hI.out.fr.size
          refine ⟨k, _, _, rfl, rfl, by omega, hid ⟨?_, ?_, QT.add O4.out (R3.out.1) (fun r hr => ⟨(R3.out.2 r hr).1.next al, (R3.out.2 r hr).2.next al⟩) ((N4.out.1.mono F4).next al) ((N4.out.2.mono F4).next al) O5.out G5.out, N1.out⟩, E1⟩
          · exact (R4.out.rd.below al).row G5.out (fun e => by have := (ty _ e).1; have := PQ.out.1; omega) (fun e => by have := (ty _ e).1; have := PQ.out.2; omega)
          · exact fr_row (fr_below (grownBy_trans hI.out.fr R4.out.fr) al) G5.out (fun i e => (ty i e).1)

end Go.Proofs.YtcmifdnndckpcaaDoor
