/- The walks over verify's isPlace, isKind, isList, isPair, isThere. -/
import Derived.Test.YtjkbiglnpoeddaaDoorVfa
namespace Go.Proofs.YtjkbiglnpoeddaaDoor.Vf
open Go.RowKit
set_option linter.unusedVariables false
set_option linter.unusedSimpArgs false

set_option maxRecDepth 100000 in
set_option maxHeartbeats 8000000 in
theorem isPlace_any (n m : Int) (w : World) : Calls Tryd.prog 45 #[.int .i64 n, .int .i64 m] w fun e w' => e = .returned (.bool (plB n m)) ∧ w = w' := by
  by_cases q0 : 0 ≤ n
  · by_cases q1 : n < m
    · have E := hid (show plB n m = true from by unfold plB; rw [decide_eq_true q0, decide_eq_true q1]; rfl)
      go_enter Tryd.func45, Tryd.ntmps45
      go_wp2_with fail
      go_ret
      exact ⟨by rw [E.out]; rfl, rfl⟩
    · have E := hid (show plB n m = false from by unfold plB; rw [decide_eq_true q0, decide_eq_false q1]; rfl)
      go_enter Tryd.func45, Tryd.ntmps45
      go_wp2_with fail
      go_ret
      exact ⟨by rw [E.out]; rfl, rfl⟩
  · have E := hid (show plB n m = false from by unfold plB; rw [decide_eq_false q0]; rfl)
    go_enter Tryd.func45, Tryd.ntmps45
    go_wp2_with fail
    go_ret
    exact ⟨by rw [E.out]; rfl, rfl⟩
set_option maxRecDepth 100000 in
set_option maxHeartbeats 8000000 in
theorem isKind_any (n a b : Int) (w : World) : Calls Tryd.prog 46 #[.int .i64 n, .int .i64 a, .int .i64 b] w fun e w' => e = .returned (.bool (kdB n a b)) ∧ w = w' := by
  by_cases q0 : a ≤ n
  · by_cases q1 : n ≤ b
    · have E := hid (show kdB n a b = true from by unfold kdB; rw [decide_eq_true q0, decide_eq_true q1]; rfl)
      go_enter Tryd.func46, Tryd.ntmps46
      go_wp2_with fail
      go_ret
      exact ⟨by rw [E.out]; rfl, rfl⟩
    · have E := hid (show kdB n a b = false from by unfold kdB; rw [decide_eq_true q0, decide_eq_false q1]; rfl)
      go_enter Tryd.func46, Tryd.ntmps46
      go_wp2_with fail
      go_ret
      exact ⟨by rw [E.out]; rfl, rfl⟩
  · have E := hid (show kdB n a b = false from by unfold kdB; rw [decide_eq_false q0]; rfl)
    go_enter Tryd.func46, Tryd.ntmps46
    go_wp2_with fail
    go_ret
    exact ⟨by rw [E.out]; rfl, rfl⟩
theorem plB_yes {n m : Int} (h : plB n m = true) : ∃ i : Nat, n = i ∧ (i : Int) < m := by
  unfold plB at h
  simp only [Bool.and_eq_true, decide_eq_true_eq] at h
  exact ⟨n.toNat, by omega, by omega⟩
/-- A kind in a list of kinds. -/
theorem kind_at {w : World} {a : Option Addr} {m : Nat} {xs : List Int} (h : Vw aI 1 w a m xs) {i : Nat} (hi : i < m) : ∃ g o : Nat, a = some ⟨g, o, none⟩ ∧ w.cell? ⟨g, o + i, none⟩ = some (.int .i64 (atI xs i)) := by
  obtain ⟨g, o, x, ea, hx, hA, _⟩ := h.get hi
  refine ⟨g, o, ea, ?_⟩
  have := hA.1
  rw [Nat.mul_one] at this
  rw [this]
  unfold atI
  rw [Int.toNat_natCast, List.getD_eq_getElem?_getD, hx]
  rfl
set_option maxRecDepth 100000 in
set_option maxHeartbeats 8000000 in
theorem isList_any {w : World} {c : Nat} {s : S7} {p : Pg} {lv : Value} {st sk : Int} (hC : Ck w c s lv st sk) (hP : Pv w s p) (n : Int) :
    Calls Tryd.prog 47 #[.pointer (some ⟨c, 0, none⟩), .int .i64 n] w fun e w' => e = .returned (.bool (liB p n)) ∧ w = w' := by
  have KP := hid (isPlace_any n s.m2 w)
  have c2 : w.cell? ⟨c, 2, none⟩ = some (.slice s.a2 s.m2 s.c2) := hC.cell 2 _ rfl
  have HL := hid (show liB p n = (plB n s.m2 && decide (atI p.ins n = 6)) from by unfold liB; rw [hP.k2.len])
  rw [HL.out]
  cases z : plB n s.m2 with
  | false =>
    rw [z] at KP
    clear hP hC HL z
    go_enter Tryd.func47, Tryd.ntmps47
    go_wp2_with (go_at_call 45; (with_reducible refine Calls.mono KP.out ?_); rintro e w1 ⟨rfl, rfl⟩)
    go_ret
    exact ⟨rfl, rfl⟩
  | true =>
    rw [z] at KP
    obtain ⟨i, rfl, hi⟩ := plB_yes z
    obtain ⟨g, o, ea, hc⟩ := kind_at hP.k2 (show i < s.m2 by omega)
    rw [ea] at c2
    generalize atI p.ins i = k at *
    clear hP hC HL z ea
    by_cases q : k = 6
    · subst q
      rw [show decide ((6 : Int) = 6) = true from by decide]
      go_enter Tryd.func47, Tryd.ntmps47
      go_wp2_with (go_at_call 45; (with_reducible refine Calls.mono KP.out ?_); rintro e w1 ⟨rfl, rfl⟩)
      go_ret
      exact ⟨rfl, rfl⟩
    · rw [decide_eq_false q]
      have qb : (k == 6) = false := by simpa using q
      go_enter Tryd.func47, Tryd.ntmps47
      go_wp2_with (go_at_call 45; (with_reducible refine Calls.mono KP.out ?_); rintro e w1 ⟨rfl, rfl⟩)
      go_ret
      exact ⟨rfl, rfl⟩
set_option maxRecDepth 100000 in
set_option maxHeartbeats 8000000 in
theorem isPair_any {w : World} {c : Nat} {s : S7} {p : Pg} {lv : Value} {st sk : Int} (hC : Ck w c s lv st sk) (hP : Pv w s p) (hm : s.m4 ≤ 1000000) (n : Int) :
    Calls Tryd.prog 48 #[.pointer (some ⟨c, 0, none⟩), .int .i64 n] w fun e w' => e = .returned (.bool (paB p n)) ∧ w = w' := by
  have KP := hid (isPlace_any n ((s.m4 : Int) - 1) w)
  have c4 : w.cell? ⟨c, 4, none⟩ = some (.slice s.a4 s.m4 s.c4) := hC.cell 4 _ rfl
  have HL := hid (show paB p n = (plB n ((s.m4 : Int) - 1) && decide (atI p.sl n = 2) && decide (atI p.sl (n + 1) = 3)) from by unfold paB; rw [hP.k4.len])
  rw [HL.out]
  have mb : (s.m4 : Int) ≤ 1000000 := by omega
  cases z : plB n ((s.m4 : Int) - 1) with
  | false =>
    rw [z] at KP
    clear hP hC HL z
    go_enter Tryd.func48, Tryd.ntmps48
    go_wp2_with (go_at_call 45; (with_reducible refine Calls.mono KP.out ?_); rintro e w1 ⟨rfl, rfl⟩)
    go_ret
    exact ⟨rfl, rfl⟩
  | true =>
    rw [z] at KP
    obtain ⟨i, rfl, hi⟩ := plB_yes z
    obtain ⟨g, o, ea, hc⟩ := kind_at hP.k4 (show i < s.m4 by omega)
    obtain ⟨g2, o2, ea2, hc2⟩ := kind_at hP.k4 (show i + 1 < s.m4 by omega)
    rw [ea] at ea2
    injection ea2 with ea2
    injection ea2 with eg eo _
    subst eg eo
    rw [ea] at c4
    rw [show ((i : Int) + 1) = ((i + 1 : Nat) : Int) from by omega]
    have i1 : (i : Int) + 1 < s.m4 := by omega
    generalize atI p.sl i = k at *
    generalize atI p.sl (i + 1 : Nat) = k2 at *
    clear hP hC HL z ea
    by_cases q : k = 2
    · subst q
      by_cases q2 : k2 = 3
      · subst q2
        rw [show decide ((2 : Int) = 2) = true from by decide, show decide ((3 : Int) = 3) = true from by decide]
        go_enter Tryd.func48, Tryd.ntmps48
        go_wp2_with (go_at_call 45; (with_reducible refine Calls.mono KP.out ?_); rintro e w1 ⟨rfl, rfl⟩)
        go_ret
        exact ⟨rfl, rfl⟩
      · rw [decide_eq_false q2]
        have qb : (k2 == 3) = false := by simpa using q2
        go_enter Tryd.func48, Tryd.ntmps48
        go_wp2_with (go_at_call 45; (with_reducible refine Calls.mono KP.out ?_); rintro e w1 ⟨rfl, rfl⟩)
        go_ret
        exact ⟨rfl, rfl⟩
    · rw [decide_eq_false q]
      have qb : (k == 2) = false := by simpa using q
      go_enter Tryd.func48, Tryd.ntmps48
      go_wp2_with (go_at_call 45; (with_reducible refine Calls.mono KP.out ?_); rintro e w1 ⟨rfl, rfl⟩)
      go_ret
      exact ⟨rfl, rfl⟩

end Go.Proofs.YtjkbiglnpoeddaaDoor.Vf
