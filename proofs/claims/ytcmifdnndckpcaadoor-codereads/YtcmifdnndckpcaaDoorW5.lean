/- The walks over package pack's Reader: what it reads. -/
import Derived.Test.YtcmifdnndckpcaaDoorW3
import Derived.Laws.BitsAllLaws
namespace Go.Proofs.YtcmifdnndckpcaaDoor
open Go.RowKit
set_option linter.unusedVariables false
set_option linter.unusedSimpArgs false

/-- Seven bits more, above those that are there. -/
theorem or_above {x y k : Nat} (hx : x < 128 ^ k) (hk : k ≤ 9) (hy : y * 128 ^ k < 18446744073709551616) : bits .or .u64 (x : Int) ((y * 128 ^ k : Nat) : Int) = ((x + y * 128 ^ k : Nat) : Int) := by
  have p : (128 : Nat) ^ k = 2 ^ (7 * k) := by rw [show (128 : Nat) = 2 ^ 7 by decide, ← Nat.pow_mul]
  have q := p128 hk
  rw [u64_or_nat x _ (by omega) hy]
  have h := Nat.shiftLeft_add_eq_or_of_lt (b := x) (i := 7 * k) (by rw [← p]; exact hx) y
  rw [Nat.shiftLeft_eq, ← p] at h
  rw [Nat.or_comm, ← h, Nat.add_comm]

theorem or_step (x y k : Nat) (hx : x < 18446744073709551616) : ∃ z : Nat, bits .or .u64 (x : Int) (IntKind.u64.wrap ((y : Int) % 128 * 2 ^ (7 * k))) = (z : Int) ∧ z < 18446744073709551616 ∧ ((k ≤ 8 ∨ (k ≤ 9 ∧ y ≤ 1)) → x < 128 ^ k → z = x + y % 128 * 128 ^ k) := by
  have p : (128 : Nat) ^ k = 2 ^ (7 * k) := by rw [show (128 : Nat) = 2 ^ 7 by decide, ← Nat.pow_mul]
  have e0 : (y : Int) % 128 * 2 ^ (7 * k) = ((y % 128 * 128 ^ k : Nat) : Int) := by
    rw [p]; push_cast; rfl
  have e : IntKind.u64.wrap ((y : Int) % 128 * 2 ^ (7 * k)) = ((y % 128 * 128 ^ k % 18446744073709551616 : Nat) : Int) := by
    rw [e0, IntKind.wrap_u64]
    generalize y % 128 * 128 ^ k = A
    omega
  have lt : y % 128 * 128 ^ k % 18446744073709551616 < 18446744073709551616 := Nat.mod_lt _ (by decide)
  refine ⟨x ||| (y % 128 * 128 ^ k % 18446744073709551616), by rw [e, u64_or_nat x _ hx lt], ?_, ?_⟩
  · have := Nat.or_lt_two_pow (n := 64) (x := x) (y := y % 128 * 128 ^ k % 18446744073709551616) hx lt
    simpa using this
  · intro hk hb
    have hy : y % 128 * 128 ^ k < 18446744073709551616 := by
      rcases hk with q | ⟨q, r⟩
      · have := p128 (show k + 1 ≤ 9 by omega)
        rw [Nat.pow_succ] at this
        have : y % 128 * 128 ^ k ≤ 127 * 128 ^ k := Nat.mul_le_mul_right _ (by omega)
        omega
      · have := p128 q
        have : y % 128 * 128 ^ k ≤ 1 * 128 ^ k := Nat.mul_le_mul_right _ (by omega)
        omega
    rw [Nat.mod_eq_of_lt hy]
    have h := or_above hb (by omega) hy
    rw [u64_or_nat x _ hx hy] at h
    exact Int.ofNat.inj h

/-- What 'first' returns. -/
def firstV (bs : List Int) : Value := match dec 0 0 bs with
  | none => .tuple #[.int .u64 0, .int .i64 0]
  | some x => .tuple #[.int .u64 x.1, .int .i64 x.2]
theorem firstV_none {bs : List Int} (h : dec 0 0 bs = none) : firstV bs = .tuple #[.int .u64 0, .int .i64 0] := by unfold firstV; rw [h]
theorem firstV_some {bs : List Int} {u n : Nat} (h : dec 0 0 bs = some (u, n)) : firstV bs = .tuple #[.int .u64 u, .int .i64 n] := by unfold firstV; rw [h]
theorem retV {a b : Value} (h : a = b) : Ending.returned a = .returned b := by rw [h]
theorem drop_cons {bs : List Int} {k y : Nat} (h : k < bs.length) (e : (y : Int) = bs.getD k 0) : bs.drop k = (y : Int) :: bs.drop (k + 1) := by
  have : bs.getD k 0 = bs[k] := by simp [List.getD, h]
  rw [e, this, List.drop_eq_getElem_cons h]

set_option maxHeartbeats 4000000 in
theorem first_any (a : Option Addr) (n cap : Nat) (bs : List Int) (w : World) (h : By w a n cap bs) (hn : n ≤ 20000000) (hh : a = none ∨ ∃ b o, a = some ⟨b, o, none⟩) :
    Calls Tryd.prog 80 #[.slice a n cap] w fun e w' => e = .returned (firstV bs) ∧ w = w' := by
  rcases hh with rfl | ⟨b, o, rfl⟩
  · obtain ⟨rfl, rfl, rfl⟩ := h.none_nil
    clear h
    go_enter Tryd.func80, Tryd.ntmps80
    go_wp2_with fail
    go_rounds 1
    go_returns
    exact ⟨rfl, rfl⟩
  · have HL : Hid _ := h.len
    have HB : Hid (Bys bs) := h.ok
    have hf := h.fits
    have hx := h.max
    unfold maxLen at hx
    have H2 : Hid (∀ i, i < n → w.cell? ⟨b, o + i, none⟩ = some (.int .u8 (bs.getD i 0))) := by
      obtain ⟨b', o', h1, h2⟩ := h.cell
      intro i hi
      have := h1 (by omega)
      simp at this
      obtain ⟨rfl, rfl⟩ := this
      exact h2 i hi
    clear h
    by_cases c10 : n ≤ 10
    · have c10' : (n : Int) ≤ 10 := by omega
      go_enter Tryd.func80, Tryd.ntmps80
      go_wp2_with fail
      go_loopg [2, 12] n (fun g uv iv wr => ∃ k x : Nat, k ≤ n ∧ g = n - k ∧ iv = .int .i64 k ∧ uv = .int .u64 x ∧ x < 18446744073709551616 ∧ wr = w ∧ Hid (k ≤ 9 → x < 128 ^ k) ∧ Hid (dec 0 0 bs = dec k x (bs.drop k)))
      case atStart => exact ⟨0, 0, Nat.zero_le _, rfl, rfl, rfl, by decide, rfl, fun _ => by decide, rfl⟩
      case round =>
        obtain ⟨k, x, hk, rfl, rfl, rfl, x64, rfl, hX, hD⟩ := hrel
        by_cases q : k < n
        · have q' : (k : Int) < (n : Int) := by omega
          have qn : k < n := by omega
          have e1 := H2.out k qn
          have hy := HB.out.getD k
          obtain ⟨y, hy'⟩ : ∃ y : Nat, (y : Int) = bs.getD k 0 := ⟨(bs.getD k 0).toNat, by omega⟩
          rw [← hy'] at e1 hy
          have DC : Hid (bs.drop k = (y : Int) :: bs.drop (k + 1)) := drop_cons (by rw [HL.out]; exact qn) hy'
          clear hy'
          obtain ⟨z, r1, z64, hz⟩ := or_step x y k x64
          have Z : Hid _ := hz
          clear hz
          by_cases c1 : 128 ≤ y
          · have c1' : (128 : Int) ≤ (y : Int) := by omega
            have D2 : Hid (dec 0 0 bs = dec (k + 1) z (bs.drop (k + 1))) := by
              show dec 0 0 bs = _
              rw [hD.out, DC.out, dec_more (by omega) c1']
              by_cases k8 : k ≤ 8
              · have e := Z.out (Or.inl k8) (hX.out (by omega))
                have e2 : (y : Int).toNat - 128 = y % 128 := by omega
                rw [e, e2]
              · rw [dec_far (by omega), dec_far (by omega)]
            have X2 : Hid (k + 1 ≤ 9 → z < 128 ^ (k + 1)) := by
              intro k8
              have xk := hX.out (by omega)
              rw [Z.out (Or.inl (by omega)) xk, Nat.pow_succ]
              have : y % 128 * 128 ^ k ≤ 127 * 128 ^ k := Nat.mul_le_mul_right _ (by omega)
              omega
            go_wp2
            go_roundg (n - (k + 1))
            case measure => omega
            case rel => exact ⟨k + 1, z, by omega, rfl, by go_num, rfl, z64, rfl, X2, D2⟩
          · have c1' : ¬ (128 : Int) ≤ (y : Int) := by omega
            by_cases c2 : (0 < k ∧ y = 0) ∨ (k = 9 ∧ 1 < y)
            · have F : Hid (firstV bs = .tuple #[.int .u64 0, .int .i64 0]) := firstV_none (by rw [hD.out, DC.out]; exact dec_bad (by omega) (by omega))
              rcases c2 with ⟨k0, y0⟩ | ⟨k9, y1⟩
              · have k0' : (0 : Int) < (k : Int) := by omega
                have y0' : ((y : Int) == 0) = true := beq_iff_eq.2 (by omega)
                have k0h : Hid _ := And.intro k0 y0
                clear k0 y0
                go_wp2
                go_returns
                exact ⟨retV F.out.symm, rfl⟩
              · have y1' : (1 : Int) < (y : Int) := by omega
                have y0' : ((y : Int) == 0) = false := beq_eq_false_iff_ne.2 (by omega)
                have k0' : (0 : Int) < (k : Int) := by omega
                have k9' : ((k : Int) == 9) = true := beq_iff_eq.2 (by omega)
                have k9h : Hid _ := k9
                clear k9
                go_wp2
                go_returns
                exact ⟨retV F.out.symm, rfl⟩
            · have F : Hid (firstV bs = .tuple #[.int .u64 z, .int .i64 ((k : Int) + 1)]) := by
                have d : dec 0 0 bs = some (z, k + 1) := by
                  rw [hD.out, DC.out, dec_last (by omega) (by omega) (by omega), Z.out (by omega) (hX.out (by omega))]
                  have e2 : (y : Int).toNat = y % 128 := by omega
                  rw [e2]
                have := firstV_some d
                rw [show ((k + 1 : Nat) : Int) = (k : Int) + 1 by omega] at this
                exact this
              by_cases k0 : k = 0
              · have k0' : ¬ (0 : Int) < (k : Int) := by omega
                have k9' : ((k : Int) == 9) = false := beq_eq_false_iff_ne.2 (by omega)
                have k0h : Hid _ := k0
                clear k0
                go_wp2
                go_returns
                exact ⟨retV F.out.symm, rfl⟩
              · have k0' : (0 : Int) < (k : Int) := by omega
                have y0' : ((y : Int) == 0) = false := beq_eq_false_iff_ne.2 (by omega)
                by_cases k9 : k = 9
                · have y1' : ¬ (1 : Int) < (y : Int) := by omega
                  have k9' : ((k : Int) == 9) = true := beq_iff_eq.2 (by omega)
                  have k9h : Hid _ := k9
                  clear k9
                  go_wp2
                  go_returns
                  exact ⟨retV F.out.symm, rfl⟩
                · have k9' : ((k : Int) == 9) = false := beq_eq_false_iff_ne.2 (by omega)
                  go_wp2
                  go_returns
                  exact ⟨retV F.out.symm, rfl⟩
        · obtain rfl : n = k := by omega
          have F : Hid (firstV bs = .tuple #[.int .u64 0, .int .i64 0]) := firstV_none (by
            rw [hD.out]
            rw [List.drop_of_length_le (by rw [HL.out]; exact Nat.le_refl _)]; exact dec_nil _ _)
          go_wp2
          go_returns
          exact ⟨retV F.out.symm, rfl⟩

    · have c10' : (10 : Int) < (n : Int) := by omega
      go_enter Tryd.func80, Tryd.ntmps80
      go_wp2_with fail
      go_loopg [2, 12] 10 (fun g uv iv wr => ∃ k x : Nat, k ≤ 10 ∧ g = 10 - k ∧ iv = .int .i64 k ∧ uv = .int .u64 x ∧ x < 18446744073709551616 ∧ wr = w ∧ Hid (k ≤ 9 → x < 128 ^ k) ∧ Hid (dec 0 0 bs = dec k x (bs.drop k)))
      case atStart => exact ⟨0, 0, Nat.zero_le _, rfl, rfl, rfl, by decide, rfl, fun _ => by decide, rfl⟩
      case round =>
        obtain ⟨k, x, hk, rfl, rfl, rfl, x64, rfl, hX, hD⟩ := hrel
        by_cases q : k < 10
        · have q' : (k : Int) < (10 : Int) := by omega
          have qn : k < n := by omega
          have e1 := H2.out k qn
          have hy := HB.out.getD k
          obtain ⟨y, hy'⟩ : ∃ y : Nat, (y : Int) = bs.getD k 0 := ⟨(bs.getD k 0).toNat, by omega⟩
          rw [← hy'] at e1 hy
          have DC : Hid (bs.drop k = (y : Int) :: bs.drop (k + 1)) := drop_cons (by rw [HL.out]; exact qn) hy'
          clear hy'
          obtain ⟨z, r1, z64, hz⟩ := or_step x y k x64
          have Z : Hid _ := hz
          clear hz
          by_cases c1 : 128 ≤ y
          · have c1' : (128 : Int) ≤ (y : Int) := by omega
            have D2 : Hid (dec 0 0 bs = dec (k + 1) z (bs.drop (k + 1))) := by
              show dec 0 0 bs = _
              rw [hD.out, DC.out, dec_more (by omega) c1']
              by_cases k8 : k ≤ 8
              · have e := Z.out (Or.inl k8) (hX.out (by omega))
                have e2 : (y : Int).toNat - 128 = y % 128 := by omega
                rw [e, e2]
              · rw [dec_far (by omega), dec_far (by omega)]
            have X2 : Hid (k + 1 ≤ 9 → z < 128 ^ (k + 1)) := by
              intro k8
              have xk := hX.out (by omega)
              rw [Z.out (Or.inl (by omega)) xk, Nat.pow_succ]
              have : y % 128 * 128 ^ k ≤ 127 * 128 ^ k := Nat.mul_le_mul_right _ (by omega)
              omega
            go_wp2
            go_roundg (10 - (k + 1))
            case measure => omega
            case rel => exact ⟨k + 1, z, by omega, rfl, by go_num, rfl, z64, rfl, X2, D2⟩
          · have c1' : ¬ (128 : Int) ≤ (y : Int) := by omega
            by_cases c2 : (0 < k ∧ y = 0) ∨ (k = 9 ∧ 1 < y)
            · have F : Hid (firstV bs = .tuple #[.int .u64 0, .int .i64 0]) := firstV_none (by rw [hD.out, DC.out]; exact dec_bad (by omega) (by omega))
              rcases c2 with ⟨k0, y0⟩ | ⟨k9, y1⟩
              · have k0' : (0 : Int) < (k : Int) := by omega
                have y0' : ((y : Int) == 0) = true := beq_iff_eq.2 (by omega)
                have k0h : Hid _ := And.intro k0 y0
                clear k0 y0
                go_wp2
                go_returns
                exact ⟨retV F.out.symm, rfl⟩
              · have y1' : (1 : Int) < (y : Int) := by omega
                have y0' : ((y : Int) == 0) = false := beq_eq_false_iff_ne.2 (by omega)
                have k0' : (0 : Int) < (k : Int) := by omega
                have k9' : ((k : Int) == 9) = true := beq_iff_eq.2 (by omega)
                have k9h : Hid _ := k9
                clear k9
                go_wp2
                go_returns
                exact ⟨retV F.out.symm, rfl⟩
            · have F : Hid (firstV bs = .tuple #[.int .u64 z, .int .i64 ((k : Int) + 1)]) := by
                have d : dec 0 0 bs = some (z, k + 1) := by
                  rw [hD.out, DC.out, dec_last (by omega) (by omega) (by omega), Z.out (by omega) (hX.out (by omega))]
                  have e2 : (y : Int).toNat = y % 128 := by omega
                  rw [e2]
                have := firstV_some d
                rw [show ((k + 1 : Nat) : Int) = (k : Int) + 1 by omega] at this
                exact this
              by_cases k0 : k = 0
              · have k0' : ¬ (0 : Int) < (k : Int) := by omega
                have k9' : ((k : Int) == 9) = false := beq_eq_false_iff_ne.2 (by omega)
                have k0h : Hid _ := k0
                clear k0
                go_wp2
                go_returns
                exact ⟨retV F.out.symm, rfl⟩
              · have k0' : (0 : Int) < (k : Int) := by omega
                have y0' : ((y : Int) == 0) = false := beq_eq_false_iff_ne.2 (by omega)
                by_cases k9 : k = 9
                · have y1' : ¬ (1 : Int) < (y : Int) := by omega
                  have k9' : ((k : Int) == 9) = true := beq_iff_eq.2 (by omega)
                  have k9h : Hid _ := k9
                  clear k9
                  go_wp2
                  go_returns
                  exact ⟨retV F.out.symm, rfl⟩
                · have k9' : ((k : Int) == 9) = false := beq_eq_false_iff_ne.2 (by omega)
                  go_wp2
                  go_returns
                  exact ⟨retV F.out.symm, rfl⟩
        · obtain rfl : k = 10 := by omega
          have F : Hid (firstV bs = .tuple #[.int .u64 0, .int .i64 0]) := firstV_none (by
            rw [hD.out]
            exact dec_far (by omega))
          go_wp2
          go_returns
          exact ⟨retV F.out.symm, rfl⟩

end Go.Proofs.YtcmifdnndckpcaaDoor
