/- The walks over code's readers of lists. -/
import Derived.Test.YtcmifdnndckpcaaDoorDj
namespace Go.Proofs.YtcmifdnndckpcaaDoor
open Go.RowKit
set_option linter.unusedVariables false
set_option linter.unusedSimpArgs false

/-- Between two rounds of a reader of a list. -/
structure RL {α : Type} (Q : World → Nat → Value → List α → Prop) (c : Cod α) (w wr : World) (p q : Nat) (v : Value) (xs : List α) (t : Sr) (M : Nat) : Prop where
  rd : Rd wr p q t.2 t.1
  fr : w.grownBy wr (some p)
  row : Q wr w.heap.size v xs
  len : xs.length + t.1.length ≤ M + (if t.2 = true then 1 else 0)
theorem rl_len {α : Type} {c : Cod α} (C : c.Good) {xs : List α} {l : List Int} {M : Nat} (h : xs.length + l.length ≤ M + (if (l, false).2 = true then 1 else 0)) : (xs ++ [(c.rd (l, false)).1]).length + (c.rd (l, false)).2.1.length ≤ M + (if (c.rd (l, false)).2.2 = true then 1 else 0) := by
  have h1 := C.less (l, false)
  have h2 := C.down (l, false)
  simp only at h h1 h2
  rw [List.length_append, List.length_singleton]
  cases e : (c.rd (l, false)).2.2 with
  | true => simp at h ⊢; omega
  | false => have := h1 e; simp at h ⊢; omega
theorem rl_eq {α : Type} {c : Cod α} {k : Nat} {xs : List α} {l : List Int} {r : List α × Sr} (h : r = (xs ++ (rdN c (k + 1) (l, false)).1, (rdN c (k + 1) (l, false)).2)) : r = ((xs ++ [(c.rd (l, false)).1]) ++ (rdN c k (c.rd (l, false)).2).1, (rdN c k (c.rd (l, false)).2).2) := by
  rw [h, rdN_succ _ _ _ rfl]
  simp
theorem cells_new (w : World) (cs : List Value) (T : TypeId) : ∀ j u, cs[j]? = some u → (w.alloc (.cells cs.toArray T)).cell? ⟨w.heap.size, j, none⟩ = some u := by
  intro j u h
  have e := heap_alloc_new w (.cells cs.toArray T)
  simp only [World.cell?, e]
  simpa using h
set_option maxRecDepth 100000 in
set_option maxHeartbeats 8000000 in
theorem rlI64_any {w : World} {p q : Nat} {s : Sr} (h : Rd w p q s.2 s.1) (hn : s.1.length ≤ 15000000) (hq : q < w.heap.size) :
    Calls Tryd.prog 73 #[.pointer (some ⟨p, 0, none⟩), .func (.func 74) #[] #[]] w fun e w' => ∃ v, e = .returned v ∧ (Qf 2 1 fI) w' w.heap.size v ((cL false cI).rd s).1 ∧ Rp w w' p q ((cL false cI).rd s).2 := by
  have E : (cL false cI).rd s = rdN cI (rU s.1) (rR s.1, s.2 || rB s.1) := by
    show rdN cI (cnt false s).1 (cnt false s).2 = _
    rw [cnt_yes (by simp)]
  rw [E]
  have hp := h.lt
  have PQ := hid (And.intro hp hq)
  have K := hid (RU_any p q s.2 s.1 w h (by omega))
  have nb : rU s.1 < 18446744073709551616 := by
    obtain ⟨a, n, c, _, y, _⟩ := h.ex
    exact rU_lt y.ok
  have LN := hid (show (rR s.1).length ≤ 15000000 from Nat.le_trans (rR_len _) hn)
  clear h hn hp hq E
  generalize rU s.1 = N0 at *
  generalize rR s.1 = l0 at *
  generalize (s.2 || rB s.1) = b0 at *
  go_enter Tryd.func73, Tryd.ntmps73
  go_wp2_with (go_at_call 70; (with_reducible refine Calls.mono K.out ?_); rintro e w1 ⟨rfl, r1, g1⟩)
  have I1 := hid (show RL (Qf 2 1 fI) cI w w1 p q (.slice none 0 0) [] (l0, b0) l0.length from ⟨r1, g1, Qf.nil _ _ _ _ _, by simp⟩)
  clear r1 g1 K
  go_loopg [5, 6] N0 (fun g iv nv wr => ∃ (k : Nat) (xs : List Int) (t : Sr), nv = .int .u64 k ∧ g = k ∧ k ≤ N0 ∧ Hid (RL (Qf 2 1 fI) cI w wr p q iv xs t l0.length) ∧ Hid (rdN cI N0 (l0, b0) = (xs ++ (rdN cI k t).1, (rdN cI k t).2)))
  case atStart => exact ⟨N0, [], (l0, b0), rfl, rfl, Nat.le_refl _, I1, hid (by simp)⟩
  case round =>
    obtain ⟨k0, xs, t, rfl, rfl, hk, hI, hE⟩ := hrel
    clear I1
    cases gk with
    | zero =>
      have E0 := hid (show rdN cI N0 (l0, b0) = (xs, t) from by rw [hE.out]; simp [rdN])
      clear hE
      go_wp2_with fail
      go_ret
      rw [E0.out]
      exact ⟨_, rfl, hI.out.row, hI.out.rd, hI.out.fr⟩
    | succ k =>
      have kp : (0 : Int) < (k : Int) + 1 := by omega
      obtain ⟨l, b⟩ := t
      cases b with
      | true =>
        have KB := hid (RBad_any p q true l wr hI.out.rd)
        have E0 := hid (show rdN cI N0 (l0, b0) = (xs, (l, true)) from by rw [hE.out, rdN_bad _ _ _ rfl]; simp)
        clear hE
        go_wp2_with (go_at_call 71; (with_reducible refine Calls.mono KB.out ?_); rintro e wb ⟨rfl, rfl⟩)
        go_ret
        rw [E0.out]
        exact ⟨_, rfl, hI.out.row, hI.out.rd, hI.out.fr⟩
      | false =>
        have KB := hid (RBad_any p q false l wr hI.out.rd)
        have LL := hid (show l.length ≤ 15000000 from by have h1 := hI.out.len; have h2 := LN.out; simp at h1; omega)
        have LX := hid (show xs.length ≤ 15000001 from by have h1 := hI.out.len; have h2 := LN.out; simp at h1; omega)
        have KI := hid (rnI64_any (s := (l, false)) hI.out.rd (by have := LL.out; simp only; omega))
        have E1 := hid (rl_eq hE.out)
        have N1 := hid (rl_len cI_good hI.out.len)
        have sz := hI.out.fr.size
        clear hE
        go_wp2_with (go_at_call 71; (with_reducible refine Calls.mono KB.out ?_); rintro e wb ⟨rfl, rfl⟩)
        (with_reducible refine Calls.mono KI.out ?_)
        rintro e w4 ⟨rfl, r4⟩
        have R4 := hid r4
        have O4 := hid ((hI.out.row.but r4.fr PQ.out.1).next (allocB w4 (.cells (fI (cI.rd (l, false)).1).toArray 2)))
        have C4 := hid (cells_new w4 (fI (cI.rd (l, false)).1) 2)
        have Z4 := hid (show w.heap.size ≤ (w4.alloc (.cells (fI (cI.rd (l, false)).1).toArray 2)).heap.size from by have := hI.out.fr.size; have := r4.fr.size; simp; omega)
        clear r4 KI KB sz
        go_wp2_with (at_builtin; refine wpList_addQ 2 57 1 8 (.int .i64 0) fI rfl (.tmp 18) (.tmp 22) rfl Tryd.underlying57 info_I64 rfl (by decide) (by decide) (fun _ => rfl) w.heap.size _ xs (cI.rd (l, false)).1 rfl O4.out (fun u hu => by simp [fI] at hu; first | (subst hu; rfl) | (rcases hu with rfl | rfl | rfl <;> rfl) | (rcases hu with rfl | rfl | rfl | rfl <;> rfl)) w4.heap.size rfl C4.out (by have := LX.out; omega) Z4.out ?_; intro v5 w5 o5 g5)
        have O5 := hid o5
        have G5 := hid g5
        clear o5 g5
        go_roundg k
        case measure => omega
        case rel =>
          have ty := O4.out.ty
          have al := allocB w4 (.cells (fI (cI.rd (l, false)).1).toArray 2)
          refine ⟨k, _, _, rfl, rfl, by omega, hid ⟨?_, ?_, O5.out, N1.out⟩, E1⟩
          · exact (R4.out.rd.below al).row G5.out (fun e => by have := (ty _ e).1; have := PQ.out.1; omega) (fun e => by have := (ty _ e).1; have := PQ.out.2; omega)
          · exact fr_row (fr_below (grownBy_trans hI.out.fr R4.out.fr) al) G5.out (fun i e => (ty i e).1)
set_option maxRecDepth 100000 in
set_option maxHeartbeats 8000000 in
theorem rlKind_any {w : World} {p q : Nat} {s : Sr} (h : Rd w p q s.2 s.1) (hn : s.1.length ≤ 15000000) (hq : q < w.heap.size) :
    Calls Tryd.prog 52 #[.pointer (some ⟨p, 0, none⟩), .func (.func 53) #[] #[]] w fun e w' => ∃ v, e = .returned v ∧ (Qf 56 1 fI) w' w.heap.size v ((cL false cI).rd s).1 ∧ Rp w w' p q ((cL false cI).rd s).2 := by
  have E : (cL false cI).rd s = rdN cI (rU s.1) (rR s.1, s.2 || rB s.1) := by
    show rdN cI (cnt false s).1 (cnt false s).2 = _
    rw [cnt_yes (by simp)]
  rw [E]
  have hp := h.lt
  have PQ := hid (And.intro hp hq)
  have K := hid (RU_any p q s.2 s.1 w h (by omega))
  have nb : rU s.1 < 18446744073709551616 := by
    obtain ⟨a, n, c, _, y, _⟩ := h.ex
    exact rU_lt y.ok
  have LN := hid (show (rR s.1).length ≤ 15000000 from Nat.le_trans (rR_len _) hn)
  clear h hn hp hq E
  generalize rU s.1 = N0 at *
  generalize rR s.1 = l0 at *
  generalize (s.2 || rB s.1) = b0 at *
  go_enter Tryd.func52, Tryd.ntmps52
  go_wp2_with (go_at_call 70; (with_reducible refine Calls.mono K.out ?_); rintro e w1 ⟨rfl, r1, g1⟩)
  have I1 := hid (show RL (Qf 56 1 fI) cI w w1 p q (.slice none 0 0) [] (l0, b0) l0.length from ⟨r1, g1, Qf.nil _ _ _ _ _, by simp⟩)
  clear r1 g1 K
  go_loopg [5, 6] N0 (fun g iv nv wr => ∃ (k : Nat) (xs : List Int) (t : Sr), nv = .int .u64 k ∧ g = k ∧ k ≤ N0 ∧ Hid (RL (Qf 56 1 fI) cI w wr p q iv xs t l0.length) ∧ Hid (rdN cI N0 (l0, b0) = (xs ++ (rdN cI k t).1, (rdN cI k t).2)))
  case atStart => exact ⟨N0, [], (l0, b0), rfl, rfl, Nat.le_refl _, I1, hid (by simp)⟩
  case round =>
    obtain ⟨k0, xs, t, rfl, rfl, hk, hI, hE⟩ := hrel
    clear I1
    cases gk with
    | zero =>
      have E0 := hid (show rdN cI N0 (l0, b0) = (xs, t) from by rw [hE.out]; simp [rdN])
      clear hE
      go_wp2_with fail
      go_ret
      rw [E0.out]
      exact ⟨_, rfl, hI.out.row, hI.out.rd, hI.out.fr⟩
    | succ k =>
      have kp : (0 : Int) < (k : Int) + 1 := by omega
      obtain ⟨l, b⟩ := t
      cases b with
      | true =>
        have KB := hid (RBad_any p q true l wr hI.out.rd)
        have E0 := hid (show rdN cI N0 (l0, b0) = (xs, (l, true)) from by rw [hE.out, rdN_bad _ _ _ rfl]; simp)
        clear hE
        go_wp2_with (go_at_call 71; (with_reducible refine Calls.mono KB.out ?_); rintro e wb ⟨rfl, rfl⟩)
        go_ret
        rw [E0.out]
        exact ⟨_, rfl, hI.out.row, hI.out.rd, hI.out.fr⟩
      | false =>
        have KB := hid (RBad_any p q false l wr hI.out.rd)
        have LL := hid (show l.length ≤ 15000000 from by have h1 := hI.out.len; have h2 := LN.out; simp at h1; omega)
        have LX := hid (show xs.length ≤ 15000001 from by have h1 := hI.out.len; have h2 := LN.out; simp at h1; omega)
        have KI := hid (rnKind_any (s := (l, false)) hI.out.rd (by have := LL.out; simp only; omega))
        have E1 := hid (rl_eq hE.out)
        have N1 := hid (rl_len cI_good hI.out.len)
        have sz := hI.out.fr.size
        clear hE
        go_wp2_with (go_at_call 71; (with_reducible refine Calls.mono KB.out ?_); rintro e wb ⟨rfl, rfl⟩)
        (with_reducible refine Calls.mono KI.out ?_)
        rintro e w4 ⟨rfl, r4⟩
        have R4 := hid r4
        have O4 := hid ((hI.out.row.but r4.fr PQ.out.1).next (allocB w4 (.cells (fI (cI.rd (l, false)).1).toArray 56)))
        have C4 := hid (cells_new w4 (fI (cI.rd (l, false)).1) 56)
        have Z4 := hid (show w.heap.size ≤ (w4.alloc (.cells (fI (cI.rd (l, false)).1).toArray 56)).heap.size from by have := hI.out.fr.size; have := r4.fr.size; simp; omega)
        clear r4 KI KB sz
        go_wp2_with (at_builtin; refine wpList_addQ 56 25 1 8 (.int .i64 0) fI rfl (.tmp 18) (.tmp 22) rfl Tryd.underlying25 info_Kind rfl (by decide) (by decide) (fun _ => rfl) w.heap.size _ xs (cI.rd (l, false)).1 rfl O4.out (fun u hu => by simp [fI] at hu; first | (subst hu; rfl) | (rcases hu with rfl | rfl | rfl <;> rfl) | (rcases hu with rfl | rfl | rfl | rfl <;> rfl)) w4.heap.size rfl C4.out (by have := LX.out; omega) Z4.out ?_; intro v5 w5 o5 g5)
        have O5 := hid o5
        have G5 := hid g5
        clear o5 g5
        go_roundg k
        case measure => omega
        case rel =>
          have ty := O4.out.ty
          have al := allocB w4 (.cells (fI (cI.rd (l, false)).1).toArray 56)
          refine ⟨k, _, _, rfl, rfl, by omega, hid ⟨?_, ?_, O5.out, N1.out⟩, E1⟩
          · exact (R4.out.rd.below al).row G5.out (fun e => by have := (ty _ e).1; have := PQ.out.1; omega) (fun e => by have := (ty _ e).1; have := PQ.out.2; omega)
          · exact fr_row (fr_below (grownBy_trans hI.out.fr R4.out.fr) al) G5.out (fun i e => (ty i e).1)
set_option maxRecDepth 100000 in
set_option maxHeartbeats 8000000 in
theorem rlVal_any {w : World} {p q : Nat} {s : Sr} (h : Rd w p q s.2 s.1) (hn : s.1.length ≤ 15000000) (hq : q < w.heap.size) :
    Calls Tryd.prog 48 #[.pointer (some ⟨p, 0, none⟩), .func (.func 49) #[] #[]] w fun e w' => ∃ v, e = .returned v ∧ (Qf 62 3 fC) w' w.heap.size v ((cL false cC).rd s).1 ∧ Rp w w' p q ((cL false cC).rd s).2 := by
  have E : (cL false cC).rd s = rdN cC (rU s.1) (rR s.1, s.2 || rB s.1) := by
    show rdN cC (cnt false s).1 (cnt false s).2 = _
    rw [cnt_yes (by simp)]
  rw [E]
  have hp := h.lt
  have PQ := hid (And.intro hp hq)
  have K := hid (RU_any p q s.2 s.1 w h (by omega))
  have nb : rU s.1 < 18446744073709551616 := by
    obtain ⟨a, n, c, _, y, _⟩ := h.ex
    exact rU_lt y.ok
  have LN := hid (show (rR s.1).length ≤ 15000000 from Nat.le_trans (rR_len _) hn)
  clear h hn hp hq E
  generalize rU s.1 = N0 at *
  generalize rR s.1 = l0 at *
  generalize (s.2 || rB s.1) = b0 at *
  go_enter Tryd.func48, Tryd.ntmps48
  go_wp2_with (go_at_call 70; (with_reducible refine Calls.mono K.out ?_); rintro e w1 ⟨rfl, r1, g1⟩)
  have I1 := hid (show RL (Qf 62 3 fC) cC w w1 p q (.slice none 0 0) [] (l0, b0) l0.length from ⟨r1, g1, Qf.nil _ _ _ _ _, by simp⟩)
  clear r1 g1 K
  go_loopg [5, 6] N0 (fun g iv nv wr => ∃ (k : Nat) (xs : List (Int × Int)) (t : Sr), nv = .int .u64 k ∧ g = k ∧ k ≤ N0 ∧ Hid (RL (Qf 62 3 fC) cC w wr p q iv xs t l0.length) ∧ Hid (rdN cC N0 (l0, b0) = (xs ++ (rdN cC k t).1, (rdN cC k t).2)))
  case atStart => exact ⟨N0, [], (l0, b0), rfl, rfl, Nat.le_refl _, I1, hid (by simp)⟩
  case round =>
    obtain ⟨k0, xs, t, rfl, rfl, hk, hI, hE⟩ := hrel
    clear I1
    cases gk with
    | zero =>
      have E0 := hid (show rdN cC N0 (l0, b0) = (xs, t) from by rw [hE.out]; simp [rdN])
      clear hE
      go_wp2_with fail
      go_ret
      rw [E0.out]
      exact ⟨_, rfl, hI.out.row, hI.out.rd, hI.out.fr⟩
    | succ k =>
      have kp : (0 : Int) < (k : Int) + 1 := by omega
      obtain ⟨l, b⟩ := t
      cases b with
      | true =>
        have KB := hid (RBad_any p q true l wr hI.out.rd)
        have E0 := hid (show rdN cC N0 (l0, b0) = (xs, (l, true)) from by rw [hE.out, rdN_bad _ _ _ rfl]; simp)
        clear hE
        go_wp2_with (go_at_call 71; (with_reducible refine Calls.mono KB.out ?_); rintro e wb ⟨rfl, rfl⟩)
        go_ret
        rw [E0.out]
        exact ⟨_, rfl, hI.out.row, hI.out.rd, hI.out.fr⟩
      | false =>
        have KB := hid (RBad_any p q false l wr hI.out.rd)
        have LL := hid (show l.length ≤ 15000000 from by have h1 := hI.out.len; have h2 := LN.out; simp at h1; omega)
        have LX := hid (show xs.length ≤ 15000001 from by have h1 := hI.out.len; have h2 := LN.out; simp at h1; omega)
        have KI := hid (code_readConstant_any (s := (l, false)) hI.out.rd (by have := LL.out; simp only; omega) (Nat.lt_of_lt_of_le PQ.out.2 hI.out.fr.size))
        have E1 := hid (rl_eq hE.out)
        have N1 := hid (rl_len cC_good hI.out.len)
        have sz := hI.out.fr.size
        clear hE
        go_wp2_with (go_at_call 71; (with_reducible refine Calls.mono KB.out ?_); rintro e wb ⟨rfl, rfl⟩)
        (with_reducible refine Calls.mono KI.out ?_)
        rintro e w4 ⟨rfl, r4⟩
        have R4 := hid r4
        have O4 := hid ((hI.out.row.but r4.fr PQ.out.1).next (allocB w4 (.cells (fC (cC.rd (l, false)).1).toArray 62)))
        have C4 := hid (cells_new w4 (fC (cC.rd (l, false)).1) 62)
        have Z4 := hid (show w.heap.size ≤ (w4.alloc (.cells (fC (cC.rd (l, false)).1).toArray 62)).heap.size from by have := hI.out.fr.size; have := r4.fr.size; simp; omega)
        clear r4 KI KB sz
        go_wp2_with (at_builtin; refine wpList_addQ 62 23 3 40 (.agg #[.int .i64 0, .int .i64 0, .slice none 0 0]) fC rfl (.tmp 18) (.tmp 22) rfl Tryd.underlying23 info_Val rfl (by decide) (by decide) (fun _ => rfl) w.heap.size _ xs (cC.rd (l, false)).1 rfl O4.out (fun u hu => by simp [fC] at hu; first | (subst hu; rfl) | (rcases hu with rfl | rfl | rfl <;> rfl) | (rcases hu with rfl | rfl | rfl | rfl <;> rfl)) w4.heap.size rfl C4.out (by have := LX.out; omega) Z4.out ?_; intro v5 w5 o5 g5)
        have O5 := hid o5
        have G5 := hid g5
        clear o5 g5
        go_roundg k
        case measure => omega
        case rel =>
          have ty := O4.out.ty
          have al := allocB w4 (.cells (fC (cC.rd (l, false)).1).toArray 62)
          refine ⟨k, _, _, rfl, rfl, by omega, hid ⟨?_, ?_, O5.out, N1.out⟩, E1⟩
          · exact (R4.out.rd.below al).row G5.out (fun e => by have := (ty _ e).1; have := PQ.out.1; omega) (fun e => by have := (ty _ e).1; have := PQ.out.2; omega)
          · exact fr_row (fr_below (grownBy_trans hI.out.fr R4.out.fr) al) G5.out (fun i e => (ty i e).1)
set_option maxRecDepth 100000 in
set_option maxHeartbeats 8000000 in
theorem rlIns_any {w : World} {p q : Nat} {s : Sr} (h : Rd w p q s.2 s.1) (hn : s.1.length ≤ 15000000) (hq : q < w.heap.size) :
    Calls Tryd.prog 56 #[.pointer (some ⟨p, 0, none⟩), .func (.func 57) #[] #[]] w fun e w' => ∃ v, e = .returned v ∧ (Qf 36 4 fN) w' w.heap.size v ((cL false cN).rd s).1 ∧ Rp w w' p q ((cL false cN).rd s).2 := by
  have E : (cL false cN).rd s = rdN cN (rU s.1) (rR s.1, s.2 || rB s.1) := by
    show rdN cN (cnt false s).1 (cnt false s).2 = _
    rw [cnt_yes (by simp)]
  rw [E]
  have hp := h.lt
  have PQ := hid (And.intro hp hq)
  have K := hid (RU_any p q s.2 s.1 w h (by omega))
  have nb : rU s.1 < 18446744073709551616 := by
    obtain ⟨a, n, c, _, y, _⟩ := h.ex
    exact rU_lt y.ok
  have LN := hid (show (rR s.1).length ≤ 15000000 from Nat.le_trans (rR_len _) hn)
  clear h hn hp hq E
  generalize rU s.1 = N0 at *
  generalize rR s.1 = l0 at *
  generalize (s.2 || rB s.1) = b0 at *
  go_enter Tryd.func56, Tryd.ntmps56
  go_wp2_with (go_at_call 70; (with_reducible refine Calls.mono K.out ?_); rintro e w1 ⟨rfl, r1, g1⟩)
  have I1 := hid (show RL (Qf 36 4 fN) cN w w1 p q (.slice none 0 0) [] (l0, b0) l0.length from ⟨r1, g1, Qf.nil _ _ _ _ _, by simp⟩)
  clear r1 g1 K
  go_loopg [5, 6] N0 (fun g iv nv wr => ∃ (k : Nat) (xs : List (Int × Int × Int × Int)) (t : Sr), nv = .int .u64 k ∧ g = k ∧ k ≤ N0 ∧ Hid (RL (Qf 36 4 fN) cN w wr p q iv xs t l0.length) ∧ Hid (rdN cN N0 (l0, b0) = (xs ++ (rdN cN k t).1, (rdN cN k t).2)))
  case atStart => exact ⟨N0, [], (l0, b0), rfl, rfl, Nat.le_refl _, I1, hid (by simp)⟩
  case round =>
    obtain ⟨k0, xs, t, rfl, rfl, hk, hI, hE⟩ := hrel
    clear I1
    cases gk with
    | zero =>
      have E0 := hid (show rdN cN N0 (l0, b0) = (xs, t) from by rw [hE.out]; simp [rdN])
      clear hE
      go_wp2_with fail
      go_ret
      rw [E0.out]
      exact ⟨_, rfl, hI.out.row, hI.out.rd, hI.out.fr⟩
    | succ k =>
      have kp : (0 : Int) < (k : Int) + 1 := by omega
      obtain ⟨l, b⟩ := t
      cases b with
      | true =>
        have KB := hid (RBad_any p q true l wr hI.out.rd)
        have E0 := hid (show rdN cN N0 (l0, b0) = (xs, (l, true)) from by rw [hE.out, rdN_bad _ _ _ rfl]; simp)
        clear hE
        go_wp2_with (go_at_call 71; (with_reducible refine Calls.mono KB.out ?_); rintro e wb ⟨rfl, rfl⟩)
        go_ret
        rw [E0.out]
        exact ⟨_, rfl, hI.out.row, hI.out.rd, hI.out.fr⟩
      | false =>
        have KB := hid (RBad_any p q false l wr hI.out.rd)
        have LL := hid (show l.length ≤ 15000000 from by have h1 := hI.out.len; have h2 := LN.out; simp at h1; omega)
        have LX := hid (show xs.length ≤ 15000001 from by have h1 := hI.out.len; have h2 := LN.out; simp at h1; omega)
        have KI := hid (code_readInstr_any (s := (l, false)) hI.out.rd (by have := LL.out; simp only; omega) (Nat.lt_of_lt_of_le PQ.out.2 hI.out.fr.size))
        have E1 := hid (rl_eq hE.out)
        have N1 := hid (rl_len cN_good hI.out.len)
        have sz := hI.out.fr.size
        clear hE
        go_wp2_with (go_at_call 71; (with_reducible refine Calls.mono KB.out ?_); rintro e wb ⟨rfl, rfl⟩)
        (with_reducible refine Calls.mono KI.out ?_)
        rintro e w4 ⟨rfl, r4⟩
        have R4 := hid r4
        have O4 := hid ((hI.out.row.but r4.fr PQ.out.1).next (allocB w4 (.cells (fN (cN.rd (l, false)).1).toArray 36)))
        have C4 := hid (cells_new w4 (fN (cN.rd (l, false)).1) 36)
        have Z4 := hid (show w.heap.size ≤ (w4.alloc (.cells (fN (cN.rd (l, false)).1).toArray 36)).heap.size from by have := hI.out.fr.size; have := r4.fr.size; simp; omega)
        clear r4 KI KB sz
        go_wp2_with (at_builtin; refine wpList_addQ 36 27 4 32 (.agg #[.int .i64 0, .int .i64 0, .int .i64 0, .int .i64 0]) fN rfl (.tmp 18) (.tmp 22) rfl Tryd.underlying27 info_Ins rfl (by decide) (by decide) (fun _ => rfl) w.heap.size _ xs (cN.rd (l, false)).1 rfl O4.out (fun u hu => by simp [fN] at hu; first | (subst hu; rfl) | (rcases hu with rfl | rfl | rfl <;> rfl) | (rcases hu with rfl | rfl | rfl | rfl <;> rfl)) w4.heap.size rfl C4.out (by have := LX.out; omega) Z4.out ?_; intro v5 w5 o5 g5)
        have O5 := hid o5
        have G5 := hid g5
        clear o5 g5
        go_roundg k
        case measure => omega
        case rel =>
          have ty := O4.out.ty
          have al := allocB w4 (.cells (fN (cN.rd (l, false)).1).toArray 36)
          refine ⟨k, _, _, rfl, rfl, by omega, hid ⟨?_, ?_, O5.out, N1.out⟩, E1⟩
          · exact (R4.out.rd.below al).row G5.out (fun e => by have := (ty _ e).1; have := PQ.out.1; omega) (fun e => by have := (ty _ e).1; have := PQ.out.2; omega)
          · exact fr_row (fr_below (grownBy_trans hI.out.fr R4.out.fr) al) G5.out (fun i e => (ty i e).1)
set_option maxRecDepth 100000 in
set_option maxHeartbeats 8000000 in
theorem rlStr_any {w : World} {p q : Nat} {s : Sr} (h : Rd w p q s.2 s.1) (hn : s.1.length ≤ 15000000) (hq : q < w.heap.size) :
    Calls Tryd.prog 54 #[.pointer (some ⟨p, 0, none⟩), .func (.func 55) #[] #[]] w fun e w' => ∃ v, e = .returned v ∧ (Qf 9 1 fS) w' w.heap.size v ((cL false cS).rd s).1 ∧ Rp w w' p q ((cL false cS).rd s).2 := by
  have E : (cL false cS).rd s = rdN cS (rU s.1) (rR s.1, s.2 || rB s.1) := by
    show rdN cS (cnt false s).1 (cnt false s).2 = _
    rw [cnt_yes (by simp)]
  rw [E]
  have hp := h.lt
  have PQ := hid (And.intro hp hq)
  have K := hid (RU_any p q s.2 s.1 w h (by omega))
  have nb : rU s.1 < 18446744073709551616 := by
    obtain ⟨a, n, c, _, y, _⟩ := h.ex
    exact rU_lt y.ok
  have LN := hid (show (rR s.1).length ≤ 15000000 from Nat.le_trans (rR_len _) hn)
  clear h hn hp hq E
  generalize rU s.1 = N0 at *
  generalize rR s.1 = l0 at *
  generalize (s.2 || rB s.1) = b0 at *
  go_enter Tryd.func54, Tryd.ntmps54
  go_wp2_with (go_at_call 70; (with_reducible refine Calls.mono K.out ?_); rintro e w1 ⟨rfl, r1, g1⟩)
  have I1 := hid (show RL (Qf 9 1 fS) cS w w1 p q (.slice none 0 0) [] (l0, b0) l0.length from ⟨r1, g1, Qf.nil _ _ _ _ _, by simp⟩)
  clear r1 g1 K
  go_loopg [5, 6] N0 (fun g iv nv wr => ∃ (k : Nat) (xs : List (List Int)) (t : Sr), nv = .int .u64 k ∧ g = k ∧ k ≤ N0 ∧ Hid (RL (Qf 9 1 fS) cS w wr p q iv xs t l0.length) ∧ Hid (rdN cS N0 (l0, b0) = (xs ++ (rdN cS k t).1, (rdN cS k t).2)))
  case atStart => exact ⟨N0, [], (l0, b0), rfl, rfl, Nat.le_refl _, I1, hid (by simp)⟩
  case round =>
    obtain ⟨k0, xs, t, rfl, rfl, hk, hI, hE⟩ := hrel
    clear I1
    cases gk with
    | zero =>
      have E0 := hid (show rdN cS N0 (l0, b0) = (xs, t) from by rw [hE.out]; simp [rdN])
      clear hE
      go_wp2_with fail
      go_ret
      rw [E0.out]
      exact ⟨_, rfl, hI.out.row, hI.out.rd, hI.out.fr⟩
    | succ k =>
      have kp : (0 : Int) < (k : Int) + 1 := by omega
      obtain ⟨l, b⟩ := t
      cases b with
      | true =>
        have KB := hid (RBad_any p q true l wr hI.out.rd)
        have E0 := hid (show rdN cS N0 (l0, b0) = (xs, (l, true)) from by rw [hE.out, rdN_bad _ _ _ rfl]; simp)
        clear hE
        go_wp2_with (go_at_call 71; (with_reducible refine Calls.mono KB.out ?_); rintro e wb ⟨rfl, rfl⟩)
        go_ret
        rw [E0.out]
        exact ⟨_, rfl, hI.out.row, hI.out.rd, hI.out.fr⟩
      | false =>
        have KB := hid (RBad_any p q false l wr hI.out.rd)
        have LL := hid (show l.length ≤ 15000000 from by have h1 := hI.out.len; have h2 := LN.out; simp at h1; omega)
        have LX := hid (show xs.length ≤ 15000001 from by have h1 := hI.out.len; have h2 := LN.out; simp at h1; omega)
        have KI := hid (show Calls Tryd.prog 55 _ wr (fun e w' => e = .returned (.string (strOfNums (cS.rd (l, false)).1)) ∧ Rd w' p q (cS.rd (l, false)).2.2 (cS.rd (l, false)).2.1 ∧ World.grownBy wr w' (some p)) from RS_any p q false l wr hI.out.rd (by have := LL.out; omega))
        have E1 := hid (rl_eq hE.out)
        have N1 := hid (rl_len cS_good hI.out.len)
        have sz := hI.out.fr.size
        clear hE
        go_wp2_with (go_at_call 71; (with_reducible refine Calls.mono KB.out ?_); rintro e wb ⟨rfl, rfl⟩)
        (with_reducible refine Calls.mono KI.out ?_)
        rintro e w4 ⟨rfl, r40, g40⟩
        have r4 := Rp.mk r40 g40
        clear r40 g40
        have R4 := hid r4
        have O4 := hid ((hI.out.row.but r4.fr PQ.out.1).next (allocB w4 (.cells (fS (cS.rd (l, false)).1).toArray 9)))
        have C4 := hid (cells_new w4 (fS (cS.rd (l, false)).1) 9)
        have Z4 := hid (show w.heap.size ≤ (w4.alloc (.cells (fS (cS.rd (l, false)).1).toArray 9)).heap.size from by have := hI.out.fr.size; have := r4.fr.size; simp; omega)
        clear r4 KI KB sz
        go_wp2_with (at_builtin; refine wpList_addQ 9 26 1 16 (.string ⟨#[]⟩) fS rfl (.tmp 18) (.tmp 22) rfl Tryd.underlying26 info_Str rfl (by decide) (by decide) (fun _ => rfl) w.heap.size _ xs (cS.rd (l, false)).1 rfl O4.out (fun u hu => by simp [fS] at hu; first | (subst hu; rfl) | (rcases hu with rfl | rfl | rfl <;> rfl) | (rcases hu with rfl | rfl | rfl | rfl <;> rfl)) w4.heap.size rfl C4.out (by have := LX.out; omega) Z4.out ?_; intro v5 w5 o5 g5)
        have O5 := hid o5
        have G5 := hid g5
        clear o5 g5
        go_roundg k
        case measure => omega
        case rel =>
          have ty := O4.out.ty
          have al := allocB w4 (.cells (fS (cS.rd (l, false)).1).toArray 9)
          refine ⟨k, _, _, rfl, rfl, by omega, hid ⟨?_, ?_, O5.out, N1.out⟩, E1⟩
          · exact (R4.out.rd.below al).row G5.out (fun e => by have := (ty _ e).1; have := PQ.out.1; omega) (fun e => by have := (ty _ e).1; have := PQ.out.2; omega)
          · exact fr_row (fr_below (grownBy_trans hI.out.fr R4.out.fr) al) G5.out (fun i e => (ty i e).1)

end Go.Proofs.YtcmifdnndckpcaaDoor
