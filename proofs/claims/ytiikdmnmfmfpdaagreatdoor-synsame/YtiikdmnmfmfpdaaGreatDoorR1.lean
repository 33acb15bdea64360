/- The walks over package publicanref1: leap years, a date's day, a day's date, months on. -/
import Derived.Test.YtiikdmnmfmfpdaaGreatDoorM2
namespace Go.Proofs.YtiikdmnmfmfpdaaGreatDoor
open Go.RowKit
set_option linter.unusedVariables false
set_option linter.unusedSimpArgs false

set_option maxHeartbeats 400000 in
theorem rleap_any (y : Int) (w : World) (hy : I64 y) : Calls Tryz.prog 102 #[.int .i64 y] w fun e w' => e = .returned (.bool (leapB y)) ∧ w = w' := by
  cases h4 : (y.tmod 4 == 0) <;> cases h100 : (y.tmod 100 == 0) <;> cases h400 : (y.tmod 400 == 0) <;> rw [leap_spell h4 h100 h400]
  all_goals
    have h100' := congrArg not h100
    rw [← bne] at h100'
    go_enter Tryz.func102, Tryz.ntmps102
    go_wp2
    go_ret
    exact ⟨rfl, rfl⟩

set_option maxHeartbeats 1000000 in
theorem rdays_any (y m : Int) (w : World) (hy : I64 y) : Calls Tryz.prog 103 #[.int .i64 y, .int .i64 m] w fun e w' => e = .returned (.int .i64 (days y m)) ∧ w = w' := by
  rcases month_cases m with (h | h | h | h | h | h | h | h | h | h | h | h) | h
  · subst h
    go_enter Tryz.func103, Tryz.ntmps103
    go_wp2
    go_ret
    exact ⟨rfl, rfl⟩
  · subst h
    cases hl : leapB y
    all_goals
      rw [show days y 2 = if leapB y then 29 else 28 from rfl, hl]
      go_enter Tryz.func103, Tryz.ntmps103
      go_wp2_with (go_at_call 102; refine (rleap_any _ _ hy).mono ?_; rintro e w' ⟨rfl, rfl⟩; rw [hl])
      go_ret
      exact ⟨rfl, rfl⟩
  iterate 10
    · subst h
      go_enter Tryz.func103, Tryz.ntmps103
      go_wp2
      go_ret
      exact ⟨rfl, rfl⟩
  · have z : days y m = 0 := by unfold days; rw [if_neg (by omega), if_neg (by omega), if_neg (by omega)]
    rw [z]
    have h1 : (m == 1) = false := beqf (by omega)
    have h2 : (m == 2) = false := beqf (by omega)
    have h3 : (m == 3) = false := beqf (by omega)
    have h4 : (m == 4) = false := beqf (by omega)
    have h5 : (m == 5) = false := beqf (by omega)
    have h6 : (m == 6) = false := beqf (by omega)
    have h7 : (m == 7) = false := beqf (by omega)
    have h8 : (m == 8) = false := beqf (by omega)
    have h9 : (m == 9) = false := beqf (by omega)
    have h10 : (m == 10) = false := beqf (by omega)
    have h11 : (m == 11) = false := beqf (by omega)
    have h12 : (m == 12) = false := beqf (by omega)
    clear h
    go_enter Tryz.func103, Tryz.ntmps103
    go_wp2
    go_ret
    exact ⟨rfl, rfl⟩


theorem yl_yes {y : Int} (h : leapB y = true) : yl y = 366 := by unfold yl; rw [h]; rfl
theorem yl_no {y : Int} (h : leapB y = false) : yl y = 365 := by unfold yl; rw [h]; rfl

set_option maxHeartbeats 1000000 in
theorem rday_yes (y m d : Int) (w : World) (h : dateB y m d = true) :
    Calls Tryz.prog 93 #[.int .i64 y, .int .i64 m, .int .i64 d] w fun e w' => e = .returned (.tuple #[.int .i64 (dayN y m d), .bool true]) ∧ w = w' := by
  obtain ⟨y0, y1, m0, m1, d0, d1, eq⟩ := isDate_of h
  have hy : I64 y := ⟨by omega, by omega⟩
  have EQ : Hid _ := eq
  have nb := ny_bd y0 (by omega)
  have dl := days_le y m
  have i1 : ¬ y < 1900 := by omega
  have i2 : ¬ y > 2199 := by omega
  have j1 : ¬ m < 1 := by omega
  have j2 : ¬ m > 12 := by omega
  have i3 : ¬ d < 1 := by omega
  have i4 : ¬ d > days y m := by omega
  clear eq h
  go_enter Tryz.func93, Tryz.ntmps93
  go_wp2_with (go_at_call 103; refine (rdays_any _ _ _ hy).mono ?_; rintro e w' ⟨rfl, rfl⟩)
  go_loopg [8, 9] ((y - 1900).toNat) (fun g n k wr => ∃ z : Int, 1900 ≤ z ∧ z ≤ y ∧ g = (y - z).toNat ∧ n = .int .i64 (ny z) ∧ k = .int .i64 z ∧ wr = w)
  case atStart => exact ⟨1900, by omega, by omega, rfl, by rw [ny_0], rfl, rfl⟩
  case round =>
    obtain ⟨z, z0, z1, rfl, rfl, rfl, rfl⟩ := hrel
    have zb := ny_bd (y := z) z0 (by omega)
    have hz : I64 z := ⟨by omega, by omega⟩
    by_cases c : z < y
    · have st := ny_succ z0
      cases l : leapB z
      · rw [yl_no l] at st
        go_wp2_with (go_at_call 102; refine (rleap_any _ _ hz).mono ?_; rintro e w' ⟨rfl, rfl⟩; rw [l])
        go_roundg ((y - (z + 1)).toNat)
        case measure => omega
        case rel => exact ⟨z + 1, by omega, by omega, rfl, by congr 1; omega, by first | rfl | (congr 1; go_arith), rfl⟩
      · rw [yl_yes l] at st
        go_wp2_with (go_at_call 102; refine (rleap_any _ _ hz).mono ?_; rintro e w' ⟨rfl, rfl⟩; rw [l])
        go_roundg ((y - (z + 1)).toNat)
        case measure => omega
        case rel => exact ⟨z + 1, by omega, by omega, rfl, by congr 1; omega, by first | rfl | (congr 1; go_arith), rfl⟩
    · obtain rfl : z = y := by omega
      go_wp2_with fail
      go_loopg [8, 10] 12 (fun g n k wz => ∃ j : Nat, (j : Int) + 1 ≤ m ∧ g = 12 - j ∧ n = .int .i64 (ny z + bef z j) ∧ k = .int .i64 ((j : Int) + 1) ∧ wz = wr)
      case atStart => exact ⟨0, by omega, rfl, by rw [bef_0]; simp, rfl, rfl⟩
      case round =>
        obtain ⟨j, hj, rfl, rfl, rfl, rfl⟩ := hrel
        have bb := bef_bd z j (by omega)
        by_cases c : (j : Int) + 1 < m
        · have b2 := bef_bd z (j + 1) (by omega)
          have st := bef_step z j
          go_wp2_with (go_at_call 103; refine (rdays_any _ _ _ hy).mono ?_; rintro e w' ⟨rfl, rfl⟩)
          go_roundg (12 - (j + 1))
          case measure => omega
          case rel =>
            refine ⟨j + 1, by omega, rfl, ?_, ?_, rfl⟩
            · rw [st]; congr 1; first | done | go_arith
            · congr 1; first | done | go_arith
        · have e : (m - 1).toNat = j := by omega
          have E : Hid _ := e
          clear e
          go_wp2
          go_ret2
          refine ⟨retIB ?_ rfl, rfl⟩
          rw [EQ.out, E.out]

set_option maxHeartbeats 1000000 in
theorem rday_no (y m d : Int) (w : World) (hy : I64 y) (h : dateB y m d = false) :
    Calls Tryz.prog 93 #[.int .i64 y, .int .i64 m, .int .i64 d] w fun e w' => e = .returned (.tuple #[.int .i64 (dayN y m d), .bool false]) ∧ w = w' := by
  have z : dayN y m d = 0 := by unfold dayN; rw [h]; rfl
  rw [z]
  clear z
  have k := dateB_no h
  clear h
  by_cases i1 : y < 1900
  · clear k
    go_enter Tryz.func93, Tryz.ntmps93
    go_wp2
    go_ret2
    exact ⟨rfl, rfl⟩
  · by_cases i2 : y > 2199
    · clear k
      go_enter Tryz.func93, Tryz.ntmps93
      go_wp2
      go_ret2
      exact ⟨rfl, rfl⟩
    · by_cases j1 : m < 1
      · clear k
        go_enter Tryz.func93, Tryz.ntmps93
        go_wp2
        go_ret2
        exact ⟨rfl, rfl⟩
      · by_cases j2 : m > 12
        · clear k
          go_enter Tryz.func93, Tryz.ntmps93
          go_wp2
          go_ret2
          exact ⟨rfl, rfl⟩
        · by_cases i3 : d < 1
          · clear k
            go_enter Tryz.func93, Tryz.ntmps93
            go_wp2
            go_ret2
            exact ⟨rfl, rfl⟩
          · have i4 : d > days y m := by omega
            clear k
            go_enter Tryz.func93, Tryz.ntmps93
            go_wp2_with (go_at_call 103; refine (rdays_any _ _ _ hy).mono ?_; rintro e w' ⟨rfl, rfl⟩)
            go_ret2
            exact ⟨rfl, rfl⟩

theorem rday_any (y m d : Int) (w : World) (hy : I64 y) :
    Calls Tryz.prog 93 #[.int .i64 y, .int .i64 m, .int .i64 d] w fun e w' => e = .returned (.tuple #[.int .i64 (dayN y m d), .bool (dateB y m d)]) ∧ w = w' := by
  cases h : dateB y m d
  · exact rday_no y m d w hy h
  · exact rday_yes y m d w h
theorem rday_eq (y m : Int) {d d' : Int} (w : World) (hy : I64 y) (hd : d' = d) :
    Calls Tryz.prog 93 #[.int .i64 y, .int .i64 m, .int .i64 d'] w fun e w' => e = .returned (.tuple #[.int .i64 (dayN y m d), .bool (dateB y m d)]) ∧ w = w' := by
  subst hd
  exact rday_any y m d' w hy

set_option maxHeartbeats 1000000 in
theorem rdate_no (n : Int) (w : World) (h : dayB n = false) :
    Calls Tryz.prog 82 #[.int .i64 n] w fun e w' => e = .returned (.tuple #[.int .i64 0, .int .i64 0, .int .i64 0, .bool false]) ∧ w = w' := by
  by_cases c : n < 0
  · go_enter Tryz.func82, Tryz.ntmps82
    go_wp2
    go_returns
    exact ⟨rfl, rfl⟩
  · have c2 : n > 109572 := by
      rcases Int.lt_or_le 109572 n with q | q
      · exact q
      · rw [dayB_yes (by omega) q] at h; cases h
    go_enter Tryz.func82, Tryz.ntmps82
    go_wp2
    go_returns
    exact ⟨rfl, rfl⟩

set_option maxHeartbeats 1000000 in
theorem rdate_yes (n : Int) (w : World) (h : dayB n = true) :
    Calls Tryz.prog 82 #[.int .i64 n] w fun e w' => (∃ y m d : Int, e = .returned (.tuple #[.int .i64 y, .int .i64 m, .int .i64 d, .bool true]) ∧ IsDate n y m d) ∧ w = w' := by
  obtain ⟨n0, n1⟩ := dayB_of h
  have ne := ny_end
  have i1 : ¬ n < 0 := by omega
  have i2 : ¬ n > 109572 := by omega
  go_enter Tryz.func82, Tryz.ntmps82
  go_wp2_with fail
  go_loopg [0, 6] 300 (fun g nv yv wr => ∃ y r : Int, 1900 ≤ y ∧ y ≤ 2199 ∧ 0 ≤ r ∧ r ≤ 109572 ∧ Hid (n = ny y + r) ∧ g = (2200 - y).toNat ∧ nv = .int .i64 r ∧ yv = .int .i64 y ∧ wr = w)
  case atStart => exact ⟨1900, n, by omega, by omega, by omega, by omega, (by rw [ny_0]; omega : n = ny 1900 + n), rfl, rfl, rfl, rfl⟩
  case round =>
    obtain ⟨y, r, y0, y1, r0, r1, hn, rfl, rfl, rfl, rfl⟩ := hrel
    have hy : I64 y := ⟨by omega, by omega⟩
    have st : Hid _ := ny_succ y0
    by_cases c : r < yl y
    · have C : Hid _ := c
      cases l : leapB y
      · rw [yl_no l] at c
        go_wp2_with (go_at_call 102; refine (rleap_any _ _ hy).mono ?_; rintro e w' ⟨rfl, rfl⟩; rw [l])
        clear c
        go_loopg [0, 8] 11 (fun g rv mv wz => ∃ m q : Int, 1 ≤ m ∧ m ≤ 12 ∧ 0 ≤ q ∧ q ≤ 109572 ∧ Hid (n = ny y + bef y (m - 1).toNat + q) ∧ g = (12 - m).toNat ∧ rv = .int .i64 q ∧ mv = .int .i64 m ∧ wz = wr)
        case atStart => exact ⟨1, r, by omega, by omega, by omega, by omega, (by rw [show ((1 : Int) - 1).toNat = 0 from rfl, bef_0]; have := hn.out; omega : n = ny y + bef y ((1 : Int) - 1).toNat + r), rfl, rfl, rfl, rfl⟩
        case round =>
          obtain ⟨m, q, m0, m1, q0, q1, eq, rfl, rfl, rfl, rfl⟩ := hrel
          have dg := days_ge y m
          have dl := days_le y m
          by_cases k : q ≥ days y m
          · have mm := month_more (n := n) (y := y) (m := m) (d := q + 1) (by have := hn.out; have := st.out; have := C.out; omega) y0 m0 m1 (by have := eq.out; omega) (by omega)
            have E : Hid (n = ny y + bef y (m + 1 - 1).toNat + (q - days y m)) := (by rw [show m + 1 - 1 = m by omega, bef_m m0]; have := eq.out; omega : n = ny y + bef y (m + 1 - 1).toNat + (q - days y m))
            go_wp2_with (go_at_call 103; refine (rdays_any _ _ _ hy).mono ?_; rintro e w' ⟨rfl, rfl⟩)
            go_roundg ((12 - (m + 1)).toNat)
            case measure => omega
            case rel => exact ⟨m + 1, q - days y m, by omega, by omega, by omega, by omega, E, rfl, by first | rfl | (congr 1; go_arith), by first | rfl | (congr 1; go_arith), rfl⟩
          · go_wp2_with (go_at_call 103; refine (rdays_any _ _ _ hy).mono ?_; rintro e w' ⟨rfl, rfl⟩)
            go_returns
            refine ⟨⟨y, m, q + 1, ?_, ⟨y0, y1, m0, m1, by omega, by omega, by have := eq.out; omega⟩⟩, rfl⟩
            first | rfl | (congr 2; go_arith)
      · rw [yl_yes l] at c
        go_wp2_with (go_at_call 102; refine (rleap_any _ _ hy).mono ?_; rintro e w' ⟨rfl, rfl⟩; rw [l])
        clear c
        go_loopg [0, 8] 11 (fun g rv mv wz => ∃ m q : Int, 1 ≤ m ∧ m ≤ 12 ∧ 0 ≤ q ∧ q ≤ 109572 ∧ Hid (n = ny y + bef y (m - 1).toNat + q) ∧ g = (12 - m).toNat ∧ rv = .int .i64 q ∧ mv = .int .i64 m ∧ wz = wr)
        case atStart => exact ⟨1, r, by omega, by omega, by omega, by omega, (by rw [show ((1 : Int) - 1).toNat = 0 from rfl, bef_0]; have := hn.out; omega : n = ny y + bef y ((1 : Int) - 1).toNat + r), rfl, rfl, rfl, rfl⟩
        case round =>
          obtain ⟨m, q, m0, m1, q0, q1, eq, rfl, rfl, rfl, rfl⟩ := hrel
          have dg := days_ge y m
          have dl := days_le y m
          by_cases k : q ≥ days y m
          · have mm := month_more (n := n) (y := y) (m := m) (d := q + 1) (by have := hn.out; have := st.out; have := C.out; omega) y0 m0 m1 (by have := eq.out; omega) (by omega)
            have E : Hid (n = ny y + bef y (m + 1 - 1).toNat + (q - days y m)) := (by rw [show m + 1 - 1 = m by omega, bef_m m0]; have := eq.out; omega : n = ny y + bef y (m + 1 - 1).toNat + (q - days y m))
            go_wp2_with (go_at_call 103; refine (rdays_any _ _ _ hy).mono ?_; rintro e w' ⟨rfl, rfl⟩)
            go_roundg ((12 - (m + 1)).toNat)
            case measure => omega
            case rel => exact ⟨m + 1, q - days y m, by omega, by omega, by omega, by omega, E, rfl, by first | rfl | (congr 1; go_arith), by first | rfl | (congr 1; go_arith), rfl⟩
          · go_wp2_with (go_at_call 103; refine (rdays_any _ _ _ hy).mono ?_; rintro e w' ⟨rfl, rfl⟩)
            go_returns
            refine ⟨⟨y, m, q + 1, ?_, ⟨y0, y1, m0, m1, by omega, by omega, by have := eq.out; omega⟩⟩, rfl⟩
            first | rfl | (congr 2; go_arith)
    · have yn : y + 1 ≤ 2199 := by
        rcases Int.lt_or_eq_of_le y1 with k | k
        · omega
        · subst k
          have s := st.out
          rw [show (2199 : Int) + 1 = 2200 from rfl, ne] at s
          have := hn.out
          omega
      have HN : Hid (n = ny (y + 1) + (r - yl y)) := (by have := hn.out; have := st.out; omega : n = ny (y + 1) + (r - yl y))
      cases l : leapB y
      · rw [yl_no l] at c HN
        go_wp2_with (go_at_call 102; refine (rleap_any _ _ hy).mono ?_; rintro e w' ⟨rfl, rfl⟩; rw [l])
        go_roundg ((2200 - (y + 1)).toNat)
        case measure => omega
        case rel => exact ⟨y + 1, r - 365, by omega, by omega, by omega, by omega, HN, rfl, by first | rfl | (congr 1; go_arith), by first | rfl | (congr 1; go_arith), rfl⟩
      · rw [yl_yes l] at c HN
        go_wp2_with (go_at_call 102; refine (rleap_any _ _ hy).mono ?_; rintro e w' ⟨rfl, rfl⟩; rw [l])
        go_roundg ((2200 - (y + 1)).toNat)
        case measure => omega
        case rel => exact ⟨y + 1, r - 366, by omega, by omega, by omega, by omega, HN, rfl, by first | rfl | (congr 1; go_arith), by first | rfl | (congr 1; go_arith), rfl⟩
end Go.Proofs.YtiikdmnmfmfpdaaGreatDoor
