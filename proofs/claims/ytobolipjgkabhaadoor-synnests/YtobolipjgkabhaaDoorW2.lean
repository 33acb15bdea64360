/- The walks over package cal, on: a date's day, a day's date, months on. -/
import Derived.Test.YtobolipjgkabhaaDoorW1
import Derived.Deep.LoopGhost
namespace Go.Proofs.YtobolipjgkabhaaDoor
open Go.RowKit
set_option linter.unusedVariables false
set_option linter.unusedSimpArgs false

theorem retIB {a b : Int} {p q : Bool} (h : a = b) (k : p = q) : Ending.returned (.tuple #[.int .i64 a, .bool p]) = .returned (.tuple #[.int .i64 b, .bool q]) := by rw [h, k]

theorem bef_bd (y : Int) (k : Nat) (h : k ≤ 12) : 0 ≤ bef y k ∧ bef y k ≤ 366 := by
  have a := bef_mono y (j := 0) (k := k) (by omega)
  have b := bef_mono y h
  rw [bef_12] at b
  rw [bef_0] at a
  have := yl_bd y
  omega
theorem ny_bd {y : Int} (h : 1900 ≤ y) (h' : y ≤ 2200) : 0 ≤ ny y ∧ ny y ≤ 109573 := by
  have a := ny_mono (a := 1900) (b := y) (by omega) h
  have b := ny_mono (a := y) (b := 2200) h h'
  rw [ny_0] at a
  rw [ny_end] at b
  omega

set_option maxHeartbeats 1000000 in
theorem of_yes (y m d : Int) (w : World) (h : dateB y m d = true) :
    Calls Tryd.prog 58 #[.int .i64 y, .int .i64 m, .int .i64 d] w fun e w' => e = .returned (.tuple #[.int .i64 (dayN y m d), .bool true]) ∧ w = w' := by
  obtain ⟨y0, y1, m0, m1, d0, d1, eq⟩ := isDate_of h
  have hy : I64 y := ⟨by omega, by omega⟩
  have EQ : Hid _ := eq
  have nb := ny_bd y0 (by omega)
  have dl := days_le y m
  have i1 : ¬ y < 1900 := by omega
  have i2 : ¬ y > 2199 := by omega
  have i3 : ¬ d < 1 := by omega
  have i4 : ¬ d > days y m := by omega
  clear eq h
  go_enter Tryd.func58, Tryd.ntmps58
  go_wp2_with (first | (go_at_call 65; refine (days_any _ _ _ hy).mono ?_; rintro e w' ⟨rfl, rfl⟩) | (go_at_call 64; refine (ny_any _ _ ?_ ?_).mono ?_; omega; omega; rintro e w' ⟨rfl, rfl⟩))
  go_loopg [8, 9] 12 (fun g n k wr => ∃ j : Nat, (j : Int) + 1 ≤ m ∧ g = 12 - j ∧ n = .int .i64 (ny y + bef y j) ∧ k = .int .i64 ((j : Int) + 1) ∧ wr = w)
  case atStart => exact ⟨0, by omega, rfl, by rw [bef_0]; simp, rfl, rfl⟩
  case round =>
    obtain ⟨j, hj, rfl, rfl, rfl, rfl⟩ := hrel
    have bb := bef_bd y j (by omega)
    by_cases c : (j : Int) + 1 < m
    · have b2 := bef_bd y (j + 1) (by omega)
      have st := bef_step y j
      go_wp2_with (go_at_call 65; refine (days_any _ _ _ hy).mono ?_; rintro e w' ⟨rfl, rfl⟩)
      go_roundg (12 - (j + 1))
      case measure => omega
      case rel =>
        refine ⟨j + 1, by omega, rfl, ?_, ?_, rfl⟩
        · rw [st]; congr 1; first | done | go_arith
        · congr 1; first | done | go_arith
    · have e : (m - 1).toNat = j := by omega
      have E : Hid _ := e
      clear e
      go_wp2
      go_ret2
      refine ⟨retIB ?_ rfl, rfl⟩
      rw [EQ.out, E.out]

theorem dateB_no {y m d : Int} (h : dateB y m d = false) : y < 1900 ∨ y > 2199 ∨ d < 1 ∨ d > days y m := by
  have k := dateB_iff y m d
  rw [h] at k
  simp at k
  omega

set_option maxHeartbeats 1000000 in
theorem of_no (y m d : Int) (w : World) (hy : I64 y) (h : dateB y m d = false) :
    Calls Tryd.prog 58 #[.int .i64 y, .int .i64 m, .int .i64 d] w fun e w' => e = .returned (.tuple #[.int .i64 (dayN y m d), .bool false]) ∧ w = w' := by
  have z : dayN y m d = 0 := by unfold dayN; rw [h]; rfl
  rw [z]
  clear z
  have k := dateB_no h
  clear h
  by_cases i1 : y < 1900
  · clear k
    go_enter Tryd.func58, Tryd.ntmps58
    go_wp2
    go_ret2
    exact ⟨rfl, rfl⟩
  · by_cases i2 : y > 2199
    · clear k
      go_enter Tryd.func58, Tryd.ntmps58
      go_wp2
      go_ret2
      exact ⟨rfl, rfl⟩
    · by_cases i3 : d < 1
      · clear k
        go_enter Tryd.func58, Tryd.ntmps58
        go_wp2
        go_ret2
        exact ⟨rfl, rfl⟩
      · have i4 : d > days y m := by omega
        clear k
        go_enter Tryd.func58, Tryd.ntmps58
        go_wp2_with (go_at_call 65; refine (days_any _ _ _ hy).mono ?_; rintro e w' ⟨rfl, rfl⟩)
        go_ret2
        exact ⟨rfl, rfl⟩

theorem of_any (y m d : Int) (w : World) (hy : I64 y) :
    Calls Tryd.prog 58 #[.int .i64 y, .int .i64 m, .int .i64 d] w fun e w' => e = .returned (.tuple #[.int .i64 (dayN y m d), .bool (dateB y m d)]) ∧ w = w' := by
  cases h : dateB y m d
  · exact of_no y m d w hy h
  · exact of_yes y m d w h

theorem ret4 {a b c x y z : Int} {p q : Bool} (h : a = x) (i : b = y) (j : c = z) (k : p = q) : Ending.returned (.tuple #[.int .i64 a, .int .i64 b, .int .i64 c, .bool p]) = .returned (.tuple #[.int .i64 x, .int .i64 y, .int .i64 z, .bool q]) := by rw [h, i, j, k]

set_option maxHeartbeats 1000000 in
theorem date_no (n : Int) (w : World) (h : dayB n = false) :
    Calls Tryd.prog 52 #[.int .i64 n] w fun e w' => e = .returned (.tuple #[.int .i64 0, .int .i64 0, .int .i64 0, .bool false]) ∧ w = w' := by
  go_enter Tryd.func52, Tryd.ntmps52
  go_wp2_with (go_at_call 63; refine (isday_any _ _).mono ?_; rintro e w' ⟨rfl, rfl⟩; rw [h])
  go_returns
  exact ⟨rfl, rfl⟩

set_option maxHeartbeats 1000000 in
theorem date_yes (n : Int) (w : World) (h : dayB n = true) :
    Calls Tryd.prog 52 #[.int .i64 n] w fun e w' => (∃ y m d : Int, e = .returned (.tuple #[.int .i64 y, .int .i64 m, .int .i64 d, .bool true]) ∧ IsDate n y m d) ∧ w = w' := by
  obtain ⟨n0, n1⟩ := dayB_of h
  have q : n.tdiv 366 = n / 366 := Int.tdiv_eq_ediv_of_nonneg n0
  have sy := start_year n0
  have ne := ny_end
  go_enter Tryd.func52, Tryd.ntmps52
  go_wp2_with (go_at_call 63; refine (isday_any _ _).mono ?_; rintro e w' ⟨rfl, rfl⟩; rw [h])
  go_loopg [2] ((2200 - (1900 + n / 366)).toNat) (fun g yv wr => ∃ y : Int, 1900 ≤ y ∧ y ≤ 2199 ∧ ny y ≤ n ∧ g = (2200 - y).toNat ∧ yv = .int .i64 y ∧ wr = w)
  case atStart => exact ⟨1900 + n / 366, by omega, by omega, sy, rfl, by first | rfl | (congr 1; go_arith), rfl⟩
  case round =>
    obtain ⟨y, y0, y1, hn, rfl, rfl, rfl⟩ := hrel
    have nb := ny_bd (y := y + 1) (by omega) (by omega)
    by_cases c : ny (y + 1) ≤ n
    · have yn : y + 1 ≤ 2199 := by
        rcases Int.lt_or_eq_of_le y1 with k | k
        · omega
        · subst k; rw [show (2199 : Int) + 1 = 2200 from rfl, ne] at c; omega
      go_wp2_with (go_at_call 64; refine (ny_any _ _ ?_ ?_).mono ?_; omega; omega; rintro e w' ⟨rfl, rfl⟩)
      go_roundg ((2200 - (y + 1)).toNat)
      case measure => omega
      case rel => exact ⟨y + 1, by omega, by omega, c, rfl, by first | rfl | (congr 1; go_arith), rfl⟩
    · have nb' := ny_bd (y := y) (by omega) (by omega)
      have C : Hid (n < ny (y + 1)) := (by omega : n < ny (y + 1))
      have hy : I64 y := ⟨by omega, by omega⟩
      go_wp2_with (go_at_call 64; refine (ny_any _ _ ?_ ?_).mono ?_; omega; omega; rintro e w' ⟨rfl, rfl⟩)
      go_loopg [3, 4] 11 (fun g mv dv wz => ∃ m d : Int, 1 ≤ m ∧ m ≤ 12 ∧ 1 ≤ d ∧ d ≤ n + 1 ∧ n = ny y + bef y (m - 1).toNat + d - 1 ∧ g = (12 - m).toNat ∧ mv = .int .i64 m ∧ dv = .int .i64 d ∧ wz = wr)
      case atStart => exact ⟨1, n - ny y + 1, by omega, by omega, by omega, by omega, by rw [show ((1 : Int) - 1).toNat = 0 from rfl, bef_0]; omega, rfl, rfl, by first | rfl | (congr 1; go_arith), rfl⟩
      case round =>
        obtain ⟨m, d, m0, m1, d0, d1, eq, rfl, rfl, rfl, rfl⟩ := hrel
        have EQ : Hid _ := eq
        have dg := days_ge y m
        have dl := days_le y m
        by_cases k : d > days y m
        · have mm := month_more C.out y0 m0 m1 eq (by omega)
          have bm := bef_m (y := y) m0
          clear eq
          go_wp2_with (go_at_call 65; refine (days_any _ _ _ hy).mono ?_; rintro e w' ⟨rfl, rfl⟩)
          go_roundg ((12 - (m + 1)).toNat)
          case measure => omega
          case rel =>
            refine ⟨m + 1, d - days y m, by omega, by omega, by omega, by omega, ?_, rfl, by first | rfl | (congr 1; go_arith), by first | rfl | (congr 1; go_arith), rfl⟩
            have := EQ.out
            rw [show m + 1 - 1 = m by omega, bm]; omega
        · clear eq
          go_wp2_with (go_at_call 65; refine (days_any _ _ _ hy).mono ?_; rintro e w' ⟨rfl, rfl⟩)
          go_returns
          exact ⟨⟨y, m, d, rfl, ⟨y0, y1, m0, m1, d0, by omega, EQ.out⟩⟩, rfl⟩
end Go.Proofs.YtobolipjgkabhaaDoor
