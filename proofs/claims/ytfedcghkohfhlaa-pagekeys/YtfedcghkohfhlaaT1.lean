/- The walks over publicanref4: Good. -/
import Derived.Test.YtfedcghkohfhlaaQ5
import Derived.Deep.QuietTactic
import Derived.BigQuiet
import Derived.WalkSmall
namespace Go.Proofs.Ytfedcghkohfhlaa
open Go.RowKit
set_option linter.unusedVariables false
set_option linter.unusedSimpArgs false

/-- A page in its box, while it is only read. -/
structure GI (w : World) (bb : Nat) (lf : Bool) (ka : Option Addr) (kn kc : Nat) (va : Option Addr) (vn vc : Nat) (ia : Option Addr) (im ic : Nat) (ks vs : List ByteArray) (is : List Nat) (wr : World) : Prop where
  box : B4 wr bb (.bool lf) (.slice ka kn kc) (.slice va vn vc) (.slice ia im ic)
  key : Sl wr ka kn kc (sv ks)
  val : Sl wr va vn vc (sv vs)
  kid : Sl wr ia im ic (kv is)
  bel : Below w.heap.size w wr
theorem GI.below {w : World} {bb : Nat} {lf : Bool} {ka : Option Addr} {kn kc : Nat} {va : Option Addr} {vn vc : Nat} {ia : Option Addr} {im ic : Nat} {ks vs : List ByteArray} {is : List Nat} {wr w2 : World}
    (h : GI w bb lf ka kn kc va vn vc ia im ic ks vs is wr) (b : Below wr.heap.size wr w2) : GI w bb lf ka kn kc va vn vc ia im ic ks vs is w2 :=
  ⟨h.box.below b, h.key.below b, h.val.below b, h.kid.below b, nextB h.bel b⟩
theorem GI.new {w : World} {lf : Bool} {ka : Option Addr} {kn kc : Nat} {va : Option Addr} {vn vc : Nat} {ia : Option Addr} {im ic : Nat} {ks vs : List ByteArray} {is : List Nat} (h1 : Sl w ka kn kc (sv ks)) (h2 : Sl w va vn vc (sv vs)) (h3 : Sl w ia im ic (kv is)) (t : TypeId) :
    GI w w.heap.size lf ka kn kc va vn vc ia im ic ks vs is (w.alloc (.cells #[.bool lf, .slice ka kn kc, .slice va vn vc, .slice ia im ic] t)) :=
  ⟨B4.new w _ _ _ _ t, h1.below (allocB w _), h2.below (allocB w _), h3.below (allocB w _), allocB w _⟩
theorem drewB (w : World) (n : Nat) : Below w.heap.size w (w.drewN n) := below_drewN (Below.refl _ _) n

set_option maxRecDepth 100000 in
set_option maxHeartbeats 8000000 in
theorem kGood_any (v : Value) (p : Pg) (w : World) (h : Pv w v p) (f : Bd p) :
    Calls Try.prog 15 #[v] w fun e w' => e = .returned (.bool (goodB p)) ∧ Below w.heap.size w w' := by
  obtain ⟨ka, kn, kc, va, vn, vc, ia, im, ic, rfl, h1, h2, h3⟩ := h.ex
  obtain ⟨lf, ks, vs, is⟩ := p
  simp only at h1 h2 h3
  have l1 := h1.slen
  have l2 := h2.slen
  have l3 := h3.klen
  have b1 := f.keys
  have b2 := f.vals
  have b3 := f.kids
  have b4 := f.tk
  have b5 := f.tv
  simp only at b1 b2 b3 b4 b5
  have n1 : kn ≤ 90000 := by omega
  have n2 : vn ≤ 90000 := by omega
  have n3 : im ≤ 90001 := by omega
  have G : Hid (goodB ⟨lf, ks, vs, is⟩ = (keysB ks && (valsB vs && (kidsB is && (if lf then decide (vn = kn) && decide (im = 0) else decide (vn = 0) && decide (im = kn + 1)))))) := by
    show goodB _ = _
    unfold goodB shapeB
    simp only
    rw [l1, l2, l3]
  have g0 : Hid (GI w w.heap.size lf ka kn kc va vn vc ia im ic ks vs is (w.alloc (.cells #[.bool lf, .slice ka kn kc, .slice va vn vc, .slice ia im ic] 35))) := GI.new h1 h2 h3 35
  have LL : Hid _ := And.intro l1 (And.intro l2 l3)
  clear h h1 h2 h3 l1 l2 l3 f
  generalize goodB ⟨lf, ks, vs, is⟩ = R at *
  go_enter Try.func15, Try.ntmps15
  go_wp2_with fail
  go_loopg [3] kn (fun g iv wr => ∃ k : Nat, k ≤ kn ∧ g = kn - k ∧ iv = .int .i64 (k : Nat) ∧ Hid (∀ j, j < k → kOk ks j = true) ∧ Hid (GI w w.heap.size lf ka kn kc va vn vc ia im ic ks vs is wr))
  case atStart => exact ⟨0, Nat.zero_le _, rfl, rfl, fun j hj => by omega, g0.out⟩
  case round =>
    obtain ⟨k, hk, rfl, rfl, hR, hG⟩ := hrel
    have x0 := hG.out.box.a0
    have x1 := hG.out.box.a1
    have x2 := hG.out.box.a2
    have x3 := hG.out.box.a3
    by_cases c : k < kn
    · have c' : (k : Int) < (kn : Int) := by omega
      obtain ⟨b, o, rfl, _⟩ := hG.out.key.at (by omega)
      have e1 : wr.cell? ⟨b, o + k, none⟩ = some (.string (kAt ks k)) := hG.out.key.str c
      have sz := kAt_le (ss := ks) k
      by_cases s1 : (kAt ks k).size < 1
      · have R1 : Hid (keysB ks = false) := keysB_false (by rw [LL.out.1]; exact c) (kOk_no1 s1)
        generalize kAt ks k = s at *
        have s1' : (s.size : Int) < 1 := by omega
        go_wp2_with fail
        go_quiet (fail)
        go_wp2
        go_ret
        exact ⟨retV (by rw [G.out, R1.out]; rfl), nextB hG.out.bel (drewB _ _)⟩
      have s1' : ¬ ((kAt ks k).size : Int) < 1 := by omega
      have d1 : decide (((kAt ks k).size : Int) < 1) = false := decide_eq_false s1'
      by_cases s2 : 40 < (kAt ks k).size
      · have R1 : Hid (keysB ks = false) := keysB_false (by rw [LL.out.1]; exact c) (kOk_no2 s2)
        generalize kAt ks k = s at *
        have s2' : (40 : Int) < (s.size : Int) := by omega
        go_wp2_with fail
        go_quiet (fail)
        go_wp2
        go_ret
        exact ⟨retV (by rw [G.out, R1.out]; rfl), nextB hG.out.bel (drewB _ _)⟩
      have s2' : ¬ (40 : Int) < ((kAt ks k).size : Int) := by omega
      have d2 : decide ((40 : Int) < ((kAt ks k).size : Int)) = false := decide_eq_false s2'
      by_cases k0 : k = 0
      · have R1 : Hid (∀ j, j < k + 1 → kOk ks j = true) := fun j hj => by
          obtain rfl : j = k := by omega
          exact kOk_of (by omega) (by omega) (Or.inl k0)
        have k0' : ¬ (0 : Int) < (k : Int) := by omega
        have d3 : decide (0 < k) = false := decide_eq_false (by omega)
        have K0 : Hid _ := k0
        generalize kAt ks k = s at *
        clear k0
        go_wp2_with fail
        go_quiet (fail)
        go_wp2
        go_roundg (kn - (k + 1))
        case measure => omega
        case rel => exact ⟨k + 1, by omega, rfl, by go_num, R1.out, hG.out.below (drewB _ _)⟩
      have k0' : (0 : Int) < (k : Int) := by omega
      have d3 : decide (0 < k) = true := decide_eq_true (by omega)
      obtain ⟨m, hm⟩ : ∃ m : Nat, m = k - 1 := ⟨_, rfl⟩
      have em : (k : Int) - 1 = (m : Int) := by omega
      have e2 : wr.cell? ⟨b, o + m, none⟩ = some (.string (kAt ks m)) := hG.out.key.str (by omega)
      have m' : (m : Int) < (kn : Int) := by omega
      cases lt : ltS (kAt ks m) (kAt ks k) with
      | true =>
        have R1 : Hid (∀ j, j < k + 1 → kOk ks j = true) := fun j hj => by
          rcases Nat.lt_or_ge j k with q | q
          · exact hR.out j q
          · obtain rfl : j = k := by omega
            exact kOk_of (by omega) (by omega) (Or.inr (by rw [← hm]; exact lt))
        have t1 : Op.bytesLess (kAt ks k).toList (kAt ks m).toList = false := ltS_asym lt
        have t2 : ((kAt ks k).toList == (kAt ks m).toList) = false := by rw [toL_eq]; exact decide_eq_false (fun e => ltS_ne lt e.symm)
        have LT : Hid _ := lt
        clear lt
        generalize kAt ks k = s at *
        generalize kAt ks m = t at *
        have M : Hid _ := hm
        clear hm
        go_wp2_with fail
        go_quiet (fail)
        go_wp2
        go_roundg (kn - (k + 1))
        case measure => omega
        case rel => exact ⟨k + 1, by omega, rfl, by go_num, R1.out, hG.out.below (drewB _ _)⟩
      | false =>
        have R1 : Hid (keysB ks = false) := keysB_false (by rw [LL.out.1]; exact c) (kOk_no3 (by omega) (by rw [← hm]; exact lt))
        have T : (Op.bytesLess (kAt ks k).toList (kAt ks m).toList || (kAt ks k).toList == (kAt ks m).toList) = true := by
          cases t1 : ltS (kAt ks k) (kAt ks m) with
          | true => rw [show Op.bytesLess (kAt ks k).toList (kAt ks m).toList = true from t1]; rfl
          | false => rw [ltS_total lt t1]; simp
        have LT : Hid _ := lt
        clear lt
        generalize kAt ks k = s at *
        generalize kAt ks m = t at *
        have M : Hid _ := hm
        clear hm
        cases t1 : Op.bytesLess s.toList t.toList with
        | true =>
          go_wp2_with fail
          go_quiet (fail)
          go_wp2
          go_ret
          exact ⟨retV (by rw [G.out, R1.out]; rfl), nextB hG.out.bel (drewB _ _)⟩
        | false =>
          rw [t1, Bool.false_or] at T
          go_wp2_with fail
          go_quiet (fail)
          go_wp2
          go_ret
          exact ⟨retV (by rw [G.out, R1.out]; rfl), nextB hG.out.bel (drewB _ _)⟩
    · obtain rfl : kn = k := by omega
      have R1 : Hid (keysB ks = true) := keysB_true (fun j hj => hR.out j (by have := LL.out.1; omega))
      clear hR
      go_wp2_with fail
      go_loopg [4] vn (fun g iv wr => ∃ k : Nat, k ≤ vn ∧ g = vn - k ∧ iv = .int .i64 (k : Nat) ∧ Hid (∀ j, j < k → (kAt vs j).size ≤ 400) ∧ Hid (GI w w.heap.size lf ka kn kc va vn vc ia im ic ks vs is wr))
      case atStart => exact ⟨0, Nat.zero_le _, rfl, rfl, fun j hj => by omega, hG.out⟩
      case round =>
        clear x0 x1 x2 x3 hG
        obtain ⟨k, hk, rfl, rfl, hR, hG⟩ := hrel
        have x0 := hG.out.box.a0
        have x1 := hG.out.box.a1
        have x2 := hG.out.box.a2
        have x3 := hG.out.box.a3
        by_cases c : k < vn
        · have c' : (k : Int) < (vn : Int) := by omega
          obtain ⟨b, o, rfl, _⟩ := hG.out.val.at (by omega)
          have e1 : wr.cell? ⟨b, o + k, none⟩ = some (.string (kAt vs k)) := hG.out.val.str c
          have sz := kAt_le (ss := vs) k
          by_cases s1 : 400 < (kAt vs k).size
          · have R2 : Hid (valsB vs = false) := valsB_false (by rw [LL.out.2.1]; exact c) s1
            generalize kAt vs k = s at *
            have s1' : (400 : Int) < (s.size : Int) := by omega
            go_wp2
            go_ret
            exact ⟨retV (by rw [G.out, R1.out, R2.out]; rfl), hG.out.bel⟩
          · have R2 : Hid (∀ j, j < k + 1 → (kAt vs j).size ≤ 400) := fun j hj => by
              rcases Nat.lt_or_ge j k with q | q
              · exact hR.out j q
              · obtain rfl : j = k := by omega
                omega
            generalize kAt vs k = s at *
            have s1' : ¬ (400 : Int) < (s.size : Int) := by omega
            go_wp2
            go_roundg (vn - (k + 1))
            case measure => omega
            case rel => exact ⟨k + 1, by omega, rfl, by go_num, R2.out, hG.out⟩
        · obtain rfl : vn = k := by omega
          have R2 : Hid (valsB vs = true) := valsB_true (fun j hj => hR.out j (by have := LL.out.2.1; omega))
          clear hR
          go_wp2_with fail
          go_loopg [5] im (fun g iv wr => ∃ k : Nat, k ≤ im ∧ g = im - k ∧ iv = .int .i64 (k : Nat) ∧ Hid (∀ j, j < k → is.getD j 0 ≠ 0) ∧ Hid (GI w w.heap.size lf ka kn kc va vn vc ia im ic ks vs is wr))
          case atStart => exact ⟨0, Nat.zero_le _, rfl, rfl, fun j hj => by omega, hG.out⟩
          case round =>
            clear x0 x1 x2 x3 hG
            obtain ⟨k, hk, rfl, rfl, hR, hG⟩ := hrel
            have x0 := hG.out.box.a0
            have x1 := hG.out.box.a1
            have x2 := hG.out.box.a2
            have x3 := hG.out.box.a3
            by_cases c : k < im
            · have c' : (k : Int) < (im : Int) := by omega
              obtain ⟨b, o, rfl, _⟩ := hG.out.kid.at (by omega)
              have e1 := hG.out.kid.num c
              obtain ⟨x, hx⟩ : ∃ x : Nat, x = is.getD k 0 := ⟨_, rfl⟩
              rw [← hx] at e1
              by_cases s1 : x = 0
              · have R3 : Hid (kidsB is = false) := kidsB_false (by rw [LL.out.2.2]; exact c) (by rw [← hx]; exact s1)
                subst s1
                have X : Hid _ := hx
                clear hx
                go_wp2
                go_ret
                exact ⟨retV (by rw [G.out, R1.out, R2.out, R3.out]; rfl), hG.out.bel⟩
              · have R3 : Hid (∀ j, j < k + 1 → is.getD j 0 ≠ 0) := fun j hj => by
                  rcases Nat.lt_or_ge j k with q | q
                  · exact hR.out j q
                  · obtain rfl : j = k := by omega
                    rw [← hx]; exact s1
                have X : Hid _ := hx
                have s1' : ((x : Int) == 0) = false := beq_eq_false_iff_ne.2 (by omega)
                clear hx
                go_wp2
                go_roundg (im - (k + 1))
                case measure => omega
                case rel => exact ⟨k + 1, by omega, rfl, by go_num, R3.out, hG.out⟩
            · obtain rfl : im = k := by omega
              have R3 : Hid (kidsB is = true) := kidsB_true (fun j hj => hR.out j (by have := LL.out.2.2; omega))
              clear hR
              have GG : Hid (R = if lf then decide (vn = kn) && decide (im = 0) else decide (vn = 0) && decide (im = kn + 1)) := by
                show R = _
                rw [G.out, R1.out, R2.out, R3.out]; simp
              cases lf with
              | true =>
                by_cases c1 : vn = kn
                · subst c1
                  by_cases c2 : im = 0
                  · subst c2
                    go_wp2
                    go_ret
                    exact ⟨retV (by rw [GG.out]; simp), hG.out.bel⟩
                  · have c2' : ((im : Int) == 0) = false := beq_eq_false_iff_ne.2 (by omega)
                    have D : Hid (decide (im = 0) = false) := decide_eq_false c2
                    have C2 : Hid _ := c2
                    clear c2
                    go_wp2
                    go_ret
                    exact ⟨retV (by rw [GG.out, D.out]; simp), hG.out.bel⟩
                · have c1' : ((vn : Int) == (kn : Int)) = false := beq_eq_false_iff_ne.2 (by omega)
                  have D : Hid (decide (vn = kn) = false) := decide_eq_false c1
                  have C1 : Hid _ := c1
                  clear c1
                  go_wp2
                  go_ret
                  exact ⟨retV (by rw [GG.out, D.out]; simp), hG.out.bel⟩
              | false =>
                by_cases c1 : vn = 0
                · subst c1
                  by_cases c2 : im = kn + 1
                  · subst c2
                    go_wp2
                    go_ret
                    exact ⟨retV (by rw [GG.out]; simp), hG.out.bel⟩
                  · have c2' : ((im : Int) == (kn : Int) + 1) = false := beq_eq_false_iff_ne.2 (by omega)
                    have D : Hid (decide (im = kn + 1) = false) := decide_eq_false c2
                    have C2 : Hid _ := c2
                    clear c2
                    go_wp2
                    go_ret
                    exact ⟨retV (by rw [GG.out, D.out]; simp), hG.out.bel⟩
                · have c1' : ((vn : Int) == 0) = false := beq_eq_false_iff_ne.2 (by omega)
                  have D : Hid (decide (vn = 0) = false) := decide_eq_false c1
                  have C1 : Hid _ := c1
                  clear c1
                  go_wp2
                  go_ret
                  exact ⟨retV (by rw [GG.out, D.out]; simp), hG.out.bel⟩

end Go.Proofs.Ytfedcghkohfhlaa
