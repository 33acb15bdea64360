/- The walks over package page's Good, on; head, item. -/
import Derived.Test.YtfedcghkohfhlaaQ1
namespace Go.Proofs.Ytfedcghkohfhlaa
open Go.RowKit
set_option linter.unusedVariables false
set_option linter.unusedSimpArgs false

set_option maxRecDepth 100000 in
set_option maxHeartbeats 4000000 in
theorem Good_any (v : Value) (p : Pg) (w : World) (h : Pv w v p) (f : Bd p) :
    Calls Try.prog 12 #[v] w fun e w' => e = .returned (.bool (goodB p)) ∧ Below w.heap.size w w' := by
  obtain ⟨ka, kn, kc, va, vn, vc, ia, im, ic, rfl, h1, h2, h3⟩ := h.ex
  obtain ⟨lf, ks, vs, is⟩ := p
  simp only at h1 h2 h3
  have l1 := h1.slen
  have l2 := h2.slen
  have l3 := h3.klen
  have b1 := f.keys
  have b2 := f.vals
  have b3 := f.kids
  have b4 := f.tk
  have b5 := f.tv
  simp only at b1 b2 b3 b4 b5
  have B : Hid (∀ o : Obj, Below w.heap.size w (w.alloc o)) := fun o => allocB w o
  have K1 : Hid _ := fun o : Obj => goodKeys_any ka kn kc ks (w.alloc o) (h1.below (allocB w o)) (by omega) (by omega)
  have K2 : Hid _ := fun o : Obj => goodVals_any va vn vc vs (w.alloc o) (h2.below (allocB w o)) (by omega) (by omega)
  have K3 : Hid _ := fun o : Obj => Contains_any ia im ic is (w.alloc o) (h3.below (allocB w o)) (by omega)
  have n1 : kn ≤ 90000 := by omega
  have n2 : vn ≤ 90000 := by omega
  have n3 : im ≤ 90001 := by omega
  have G : Hid (goodB ⟨lf, ks, vs, is⟩ = (keysB ks && (valsB vs && (kidsB is && (if lf then decide (vn = kn) && decide (im = 0) else decide (vn = 0) && decide (im = kn + 1)))))) := by
    show goodB _ = _
    unfold goodB shapeB
    simp only
    rw [l1, l2, l3]
  have E2 : Hid (vn = 0 → valsB vs = true) := fun e => valsB_true (fun j hj => by omega)
  have E3 : Hid (im = 0 → kidsB is = true) := fun e => kidsB_true (fun j hj => by omega)
  clear h h1 h2 h3 l1 l2 l3 b1 b2 b3 b4 b5 f
  generalize goodB ⟨lf, ks, vs, is⟩ = R at *
  generalize keysB ks = x1 at *
  generalize valsB vs = x2 at *
  generalize kidsB is = x3 at *
  cases x1 with
  | false =>
    go_enter Try.func12, Try.ntmps12
    go_wp2_with (go_at_call 36; refine Calls.mono (K1.out _) ?_; rintro e w1 ⟨rfl, rfl⟩)
    go_ret
    exact ⟨retV (by rw [G.out]; rfl), B.out _⟩
  | true =>
    cases lf with
    | true =>
      by_cases c1 : vn = kn
      · subst c1
        cases x2 with
        | true =>
          by_cases c2 : im = 0
          · have e3 := E3.out c2
            subst c2 e3
            go_enter Try.func12, Try.ntmps12
            go_wp2_with (first | (go_at_call 36; refine Calls.mono (K1.out _) ?_; rintro e w1 ⟨rfl, rfl⟩) | (go_at_call 37; refine Calls.mono (K2.out _) ?_; rintro e w1 ⟨rfl, rfl⟩))
            go_ret
            exact ⟨retV (by rw [G.out]; simp), B.out _⟩
          · have c2' : ((im : Int) == 0) = false := beq_eq_false_iff_ne.2 (by omega)
            have D : Hid (decide (im = 0) = false) := decide_eq_false c2
            have C2 : Hid _ := c2
            clear c2
            go_enter Try.func12, Try.ntmps12
            go_wp2_with (first | (go_at_call 36; refine Calls.mono (K1.out _) ?_; rintro e w1 ⟨rfl, rfl⟩) | (go_at_call 37; refine Calls.mono (K2.out _) ?_; rintro e w1 ⟨rfl, rfl⟩))
            go_ret
            exact ⟨retV (by rw [G.out, D.out]; simp), B.out _⟩
        | false =>
          go_enter Try.func12, Try.ntmps12
          go_wp2_with (first | (go_at_call 36; refine Calls.mono (K1.out _) ?_; rintro e w1 ⟨rfl, rfl⟩) | (go_at_call 37; refine Calls.mono (K2.out _) ?_; rintro e w1 ⟨rfl, rfl⟩))
          go_ret
          exact ⟨retV (by rw [G.out]; rfl), B.out _⟩
      · have c1' : ((vn : Int) == (kn : Int)) = false := beq_eq_false_iff_ne.2 (by omega)
        have D : Hid (decide (vn = kn) = false) := decide_eq_false c1
        have C1 : Hid _ := c1
        clear c1
        go_enter Try.func12, Try.ntmps12
        go_wp2_with (first | (go_at_call 36; refine Calls.mono (K1.out _) ?_; rintro e w1 ⟨rfl, rfl⟩) | (go_at_call 37; refine Calls.mono (K2.out _) ?_; rintro e w1 ⟨rfl, rfl⟩))
        go_ret
        exact ⟨retV (by rw [G.out, D.out]; simp), B.out _⟩
    | false =>
      by_cases c1 : vn = 0
      · have e2 := E2.out c1
        subst c1 e2
        by_cases c2 : im = kn + 1
        · subst c2
          cases x3 with
          | true =>
            go_enter Try.func12, Try.ntmps12
            go_wp2_with (first | (go_at_call 36; refine Calls.mono (K1.out _) ?_; rintro e w1 ⟨rfl, rfl⟩) | (go_at_call 38; refine Calls.mono (K3.out _) ?_; rintro e w1 ⟨rfl, rfl⟩))
            go_ret
            exact ⟨retV (by rw [G.out]; simp), B.out _⟩
          | false =>
            go_enter Try.func12, Try.ntmps12
            go_wp2_with (first | (go_at_call 36; refine Calls.mono (K1.out _) ?_; rintro e w1 ⟨rfl, rfl⟩) | (go_at_call 38; refine Calls.mono (K3.out _) ?_; rintro e w1 ⟨rfl, rfl⟩))
            go_ret
            exact ⟨retV (by rw [G.out]; simp), B.out _⟩
        · have c2' : ((im : Int) == (kn : Int) + 1) = false := beq_eq_false_iff_ne.2 (by omega)
          have D : Hid (decide (im = kn + 1) = false) := decide_eq_false c2
          have C2 : Hid _ := c2
          clear c2
          go_enter Try.func12, Try.ntmps12
          go_wp2_with (first | (go_at_call 36; refine Calls.mono (K1.out _) ?_; rintro e w1 ⟨rfl, rfl⟩) | (go_at_call 38; refine Calls.mono (K3.out _) ?_; rintro e w1 ⟨rfl, rfl⟩))
          go_ret
          exact ⟨retV (by rw [G.out, D.out]; simp), B.out _⟩
      · have c1' : ((vn : Int) == 0) = false := beq_eq_false_iff_ne.2 (by omega)
        have D : Hid (decide (vn = 0) = false) := decide_eq_false c1
        have C1 : Hid _ := c1
        clear c1
        go_enter Try.func12, Try.ntmps12
        go_wp2_with (first | (go_at_call 36; refine Calls.mono (K1.out _) ?_; rintro e w1 ⟨rfl, rfl⟩) | (go_at_call 38; refine Calls.mono (K3.out _) ?_; rintro e w1 ⟨rfl, rfl⟩))
        go_ret
        exact ⟨retV (by rw [G.out, D.out]; simp), B.out _⟩

set_option maxHeartbeats 1000000 in
theorem head_any (lf : Bool) (n : Nat) (w : World) (hn : n ≤ 100000) :
    Calls Try.prog 39 #[.bool lf, .int .i64 (n : Nat)] w fun e w' => New w w' e (encH lf n) := by
  have W : IntKind.u64.wrap (n : Int) = (n : Int) := by rw [IntKind.wrap_u64]; omega
  cases lf with
  | true =>
    have K : Hid _ := pU_any (some ⟨w.heap.size, 0, none⟩) 1 1 n [76] _ (by_new w 76 5 (by decide) (by decide)) (by omega) (by omega)
    go_enter Try.func39, Try.ntmps39
    go_wp2_with (go_at_call 43; refine Calls.mono K.out ?_; rintro e w2 ⟨⟨v2, rfl, o2⟩, b2⟩)
    go_ret
    exact ⟨⟨v2, rfl, o2.mono (by simp)⟩, nextB (allocB w _) b2⟩
  | false =>
    have K : Hid _ := pU_any (some ⟨w.heap.size, 0, none⟩) 1 1 n [66] _ (by_new w 66 5 (by decide) (by decide)) (by omega) (by omega)
    go_enter Try.func39, Try.ntmps39
    go_wp2_with (go_at_call 43; refine Calls.mono K.out ?_; rintro e w2 ⟨⟨v2, rfl, o2⟩, b2⟩)
    go_ret
    exact ⟨⟨v2, rfl, o2.mono (by simp)⟩, nextB (allocB w _) b2⟩

set_option maxHeartbeats 1000000 in
theorem item_any (s t : ByteArray) (w : World) (hs : s.size ≤ 10000) (ht : t.size ≤ 10000) :
    Calls Try.prog 41 #[.string s, .string t] w fun e w' => New w w' e (encS s ++ encS t) := by
  have K : Hid _ := pS_any none 0 0 s [] w (By.empty w) (by omega) hs
  have E : Hid (encS s ++ encS t = encS s ++ enc t.size ++ nums t) := by show _ = _; unfold encS; simp
  have L : Hid _ := encS_le s (by omega)
  go_enter Try.func41, Try.ntmps41
  go_wp2_with fail
  refine Calls.mono K.out ?_
  rintro e w1 ⟨⟨v1, rfl, o1⟩, b1⟩
  rw [List.nil_append] at o1
  have o1' : Own w1 w.heap.size v1 (encS s) := o1
  obtain ⟨a1, cap1, rfl, y1, s1, hh1⟩ := o1'.by
  have K2 : Hid _ := pS_any a1 _ cap1 t (encS s) w1 y1 (by have := L.out; omega) ht
  clear o1 y1 s1 hh1
  go_wp2_with (go_at_call 42; refine Calls.mono K2.out ?_; rintro e w2 ⟨⟨v2, rfl, o2⟩, b2⟩)
  go_ret
  exact ⟨⟨v2, rfl, by rw [E.out]; exact o2.mono b1.size⟩, nextB b1 b2⟩

end Go.Proofs.Ytfedcghkohfhlaa
