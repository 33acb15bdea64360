/- The walks over package num, on: the quotient of two limbs, with its loops. -/
import Derived.Test.YtbeahnehjannpaaDoorHf
import Derived.BigQuiet
import Derived.Deep.QuietTactic
import Derived.Deep.DeepCutAuto
import Derived.Deep.CutBlock
namespace Go.Proofs.YtbeahnehjannpaaDoor.Nm
open Go.RowKit
set_option linter.unusedVariables false
set_option linter.unusedSimpArgs false

theorem len64_any (x : Int) (w : World) (hx : 0 ≤ x) (hx' : x ≤ 18446744073709551615) :
    Calls Tryd.prog 86 #[.int .u64 x] w fun e w' => e = .returned (.int .i64 (Lib.bitLen x.toNat)) ∧ w' = w := by
  by_cases h1 : x < 4294967296
  · by_cases h2 : x < 65536
    · by_cases h3 : x < 256
      · exact len64_c0 x w hx hx' h1 h2 h3
      · exact len64_c1 x w hx hx' h1 h2 (by omega)
    · by_cases h3 : x / 65536 < 256
      · exact len64_c2 x w hx hx' h1 (by omega) h3
      · exact len64_c3 x w hx hx' h1 (by omega) (by omega)
  · by_cases h2 : x / 4294967296 < 65536
    · by_cases h3 : x / 4294967296 < 256
      · exact len64_c4 x w hx hx' (by omega) h2 h3
      · exact len64_c5 x w hx hx' (by omega) h2 (by omega)
    · by_cases h3 : x / 4294967296 / 65536 < 256
      · exact len64_c6 x w hx hx' (by omega) (by omega) h3
      · exact len64_c7 x w hx hx' (by omega) (by omega) (by omega)

set_option maxHeartbeats 400000 in
theorem lz64_any (x : Int) (w : World) (hx : 0 < x) (hx' : x ≤ 18446744073709551615) :
    Calls Tryd.prog 85 #[.int .u64 x] w fun e w' => e = .returned (.int .i64 ((64 - Lib.bitLen x.toNat : Nat) : Int)) ∧ w' = w := by
  have k : Hid _ := lz_shift x.toNat (by omega) (by omega)
  go_enter Tryd.func85, Tryd.ntmps85
  go_wp2_with (go_at_call 86; refine (len64_any _ _ (by omega) (by omega)).mono ?_; rintro e w' ⟨rfl, rfl⟩)
  go_ret
  obtain ⟨k1, k2, k3, k4⟩ := k.out
  refine ⟨retI ?_, rfl⟩
  simp only [wrap64]
  omega

theorem retU2 {a b c d : Int} (h : a = b) (k : c = d) : Ending.returned (.tuple #[.int .u64 a, .int .u64 c]) = .returned (.tuple #[.int .u64 b, .int .u64 d]) := by rw [h, k]

set_option maxHeartbeats 400000 in
theorem div64_small (lo y : Int) (w : World) (h0 : (y == 0) = false) (l0 : 0 ≤ lo) (l1 : lo < M64) (hy : 0 < y) :
    Calls Tryd.prog 83 #[.int .u64 0, .int .u64 lo, .int .u64 y] w fun e w' => e = .returned (.tuple #[.int .u64 (lo / y), .int .u64 (lo % y)]) ∧ ∃ n, w' = w.drewN n := by
  go_enter Tryd.func83, Tryd.ntmps83
  go_wp2
  go_quiet (fail)
  go_wp2
  go_ret2
  refine ⟨retU2 ?_ rfl, _, rfl⟩
  rw [Int.tdiv_eq_ediv_of_nonneg l0]
  have a := Int.ediv_nonneg l0 (show 0 ≤ y by omega)
  have b := Int.ediv_le_self y l0
  unfold M64 at l1
  exact wrapId a (by omega)

set_option maxHeartbeats 1000000 in
theorem div64_big (hi lo y : Int) (s : Nat) (Y y1 y0 U L l1 l0 Q P R : Int) (w : World) (h0 : (y == 0) = false) (h1 : hi < y) (h2 : (hi == 0) = false) (hy : 0 < y) (hy' : y ≤ 18446744073709551615)
    (lz : Hid (Calls Tryd.prog 85 #[.int .u64 y] w fun e w' => e = .returned (.int .i64 s) ∧ w' = w))
    (s1 : s ≤ 63) (e1 : IntKind.u64.wrap (y * 2 ^ s) = Y) (e2 : Y / 4294967296 = y1) (e3 : bits .and .u64 Y 4294967295 = y0) (e4 : bits .or .u64 (IntKind.u64.wrap (hi * 2 ^ s)) (lo / 2 ^ (64 - s)) = U)
    (e5 : IntKind.u64.wrap (lo * 2 ^ s) = L) (e6 : L / 4294967296 = l1) (e7 : bits .and .u64 L 4294967295 = l0)
    (y1z : (y1 == 0) = false) (e8 : IntKind.u64.wrap (U.tdiv y1) = Q) (e9 : IntKind.u64.wrap (Q * y1) = P) (e10 : IntKind.u64.wrap (U - P) = R)
    (eY : Hid (Y = y1 * B32 + y0)) (Yb : Hid (Y < 18446744073709551616)) (ok : Hid (DOk y1 y0 U l1)) (st : Hid (DInv y1 y0 U l1 Q R ∧ R < 4294967296)) (a1 : 2147483648 ≤ y1) (a2 : y1 < 4294967296) (a3 : 0 ≤ l1) (a4 : l1 < 4294967296) (a5 : 0 ≤ y0) (a6 : y0 < 4294967296) (a7 : 0 ≤ l0) (a8 : l0 < 4294967296) :
    Calls Tryd.prog 83 #[.int .u64 hi, .int .u64 lo, .int .u64 y] w fun e w' => (∃ q1 q2 r : Int, e = .returned (.tuple #[.int .u64 (IntKind.u64.wrap (IntKind.u64.wrap (q1 * 4294967296) + q2)), .int .u64 r]) ∧ DFin y1 y0 U l1 q1 ∧ DFin y1 y0 (U * B32 + l1 - q1 * Y) l0 q2) ∧ w' = w := by
  go_enter Tryd.func83, Tryd.ntmps83
  go_wp2_with fail
  refine Calls.mono lz.out ?_
  rintro e w' ⟨rfl, rfl⟩
  clear lz
  go_upto_block 0 with fail
  clear e1 e2 e3 e4 e5 e6 e7 e8 e9 e10
  go_cut [15] (fun q wx => wx = w' ∧ ∃ q1 : Int, q = .int .u64 q1 ∧ Hid (DFin y1 y0 U l1 q1))
  case first =>
    go_wp2_with fail
    go_loop [15, 16] (fun q r => ∃ q1 r1 : Int, q = .int .u64 q1 ∧ r = .int .u64 r1 ∧ 0 ≤ r1 ∧ r1 < 4294967296 ∧ 0 ≤ q1 ∧ q1 ≤ 4294967297 ∧ Hid (DInv y1 y0 U l1 q1 r1)) (fun q _ => (intOf q).toNat)
    case atStart =>
      exact ⟨_, _, rfl, rfl, st.out.1.r0, st.out.2, st.out.1.q0, st.out.1.qb, st.out.1⟩
    case round =>
      obtain ⟨q1, r1, rfl, rfl, b1, b2, b3, b4, hi⟩ := hrel
      by_cases c : 4294967296 ≤ q1
      · have n : Hid _ := dstep ok.out hi.out (Or.inl c)
        by_cases d : 4294967296 ≤ r1 + y1
        · go_wp2
          go_meet
          case rel => exact ⟨rfl, q1 - 1, rfl, dbreak ok.out n.out.1 (by unfold B32; omega) d⟩
        · go_wp2
          go_round
          case rel => exact ⟨_, _, rfl, rfl, by omega, by omega, by omega, by omega, n.out.1⟩
          case measure => simp [intOf]; omega
      · have wq := lim_prod b3 (by omega) a5 a6
        by_cases c2 : 4294967296 * r1 + l1 < q1 * y0
        · have n : Hid _ := dstep ok.out hi.out (Or.inr c2)
          have q1p : 1 ≤ q1 := n.out.2
          by_cases d : 4294967296 ≤ r1 + y1
          · go_wp2
            go_meet
            case rel => exact ⟨rfl, q1 - 1, rfl, dbreak ok.out n.out.1 (by unfold B32; omega) d⟩
          · go_wp2
            go_round
            case rel => exact ⟨_, _, rfl, rfl, by omega, by omega, by omega, by omega, n.out.1⟩
            case measure => simp [intOf]; omega
        · go_wp2
          go_meet
          case rel => exact ⟨rfl, q1, rfl, dstop ok.out hi.out (by unfold B32; omega)⟩
  case rest =>
    obtain ⟨rfl, q1, rfl, hf⟩ := hcut
    obtain ⟨f1, f2, f3⟩ := dleft eY.out ok.out hf.out a7 a8 Yb.out
    generalize hU : U * B32 + l1 - q1 * Y = U2 at f1 f2 f3
    obtain ⟨Q2, P2, R2, g1, g2, g3, g4, g5⟩ := dbegin f2 f3
    have HU : Hid (U * B32 + l1 - q1 * Y = U2) := hU
    have ok2 : Hid _ := f2
    have st2 : Hid _ := And.intro g4 g5
    clear hU f2 f3 g4 g5
    go_upto_block 2 with fail
    go_cut [18] (fun q wx => wx = wc ∧ ∃ q2 : Int, q = .int .u64 q2 ∧ Hid (DFin y1 y0 U2 l0 q2))
    case first =>
      clear f1 g1 g2 g3
      go_wp2_with fail
      go_loop [18, 16] (fun q r => ∃ q1 r1 : Int, q = .int .u64 q1 ∧ r = .int .u64 r1 ∧ 0 ≤ r1 ∧ r1 < 4294967296 ∧ 0 ≤ q1 ∧ q1 ≤ 4294967297 ∧ Hid (DInv y1 y0 U2 l0 q1 r1)) (fun q _ => (intOf q).toNat)
      case atStart =>
        exact ⟨_, _, rfl, rfl, st2.out.1.r0, st2.out.2, st2.out.1.q0, st2.out.1.qb, st2.out.1⟩
      case round =>
        obtain ⟨q2, r1, rfl, rfl, b1, b2, b3, b4, hi⟩ := hrel
        by_cases c : 4294967296 ≤ q2
        · have n : Hid _ := dstep ok2.out hi.out (Or.inl c)
          by_cases d : 4294967296 ≤ r1 + y1
          · go_wp2
            go_meet
            case rel => exact ⟨rfl, q2 - 1, rfl, dbreak ok2.out n.out.1 (by unfold B32; omega) d⟩
          · go_wp2
            go_round
            case rel => exact ⟨_, _, rfl, rfl, by omega, by omega, by omega, by omega, n.out.1⟩
            case measure => simp [intOf]; omega
        · have wq := lim_prod b3 (by omega) a5 a6
          by_cases c2 : 4294967296 * r1 + l0 < q2 * y0
          · have n : Hid _ := dstep ok2.out hi.out (Or.inr c2)
            have q1p : 1 ≤ q2 := n.out.2
            by_cases d : 4294967296 ≤ r1 + y1
            · go_wp2
              go_meet
              case rel => exact ⟨rfl, q2 - 1, rfl, dbreak ok2.out n.out.1 (by unfold B32; omega) d⟩
            · go_wp2
              go_round
              case rel => exact ⟨_, _, rfl, rfl, by omega, by omega, by omega, by omega, n.out.1⟩
              case measure => simp [intOf]; omega
          · go_wp2
            go_meet
            case rel => exact ⟨rfl, q2, rfl, dstop ok2.out hi.out (by unfold B32; omega)⟩
    case rest =>
      obtain ⟨rfl, q2, rfl, hf2⟩ := hcut
      clear f1 g1 g2 g3
      go_wp2
      go_ret2
      refine ⟨⟨q1, q2, _, rfl, hf.out, ?_⟩, rfl⟩
      rw [HU.out]
      exact hf2.out

theorem maskI (a : Int) (h0 : 0 ≤ a) (h1 : a < 18446744073709551616) : bits .and .u64 a 4294967295 = a % 4294967296 := by
  obtain ⟨n, rfl⟩ := Int.eq_ofNat_of_zero_le h0
  rw [maskN n (by omega)]
  omega

/-- math/bits.Div64, where the upper limb is below the divisor: the quotient. -/
theorem div64_any (hi lo y : Int) (w : World) (hi0 : 0 ≤ hi) (h1 : hi < y) (l0 : 0 ≤ lo) (l1 : lo < M64) (hy' : y < M64) :
    Calls Tryd.prog 83 #[.int .u64 hi, .int .u64 lo, .int .u64 y] w fun e w' => (∃ r : Int, e = .returned (.tuple #[.int .u64 (val hi lo / y), .int .u64 r])) ∧ ∃ n, w' = w.drewN n := by
  have h0 : (y == 0) = false := beq_eq_false_iff_ne.2 (by omega)
  by_cases hz : hi = 0
  · subst hz
    refine (div64_small lo y w h0 l0 l1 h1).mono ?_
    rintro e w' ⟨rfl, hn⟩
    refine ⟨⟨lo % y, ?_⟩, hn⟩
    rw [show val 0 lo = lo by unfold val; omega]
  · have h2 : (hi == 0) = false := beq_eq_false_iff_ne.2 hz
    unfold M64 at l1 hy'
    obtain ⟨H, rfl⟩ := Int.eq_ofNat_of_zero_le hi0
    obtain ⟨N, rfl⟩ := Int.eq_ofNat_of_zero_le (show 0 ≤ y by omega)
    obtain ⟨D, rfl⟩ := Int.eq_ofNat_of_zero_le l0
    have lz := lz64_any (N : Int) w (by omega) (by omega)
    rw [Int.toNat_natCast] at lz
    obtain ⟨k1, k2, k3, k4⟩ := lz_shift N (by omega) (by omega)
    generalize hs : 64 - Lib.bitLen N = s at lz k3 k4
    have s1 : s ≤ 63 := by omega
    obtain ⟨p1, p2, p3, p4, p5⟩ := nat_parts H D N s s1 (by omega) (by omega) k4
    have pw : ((2 ^ s : Nat) : Int) = (2 : Int) ^ s := by simp
    have pw' : ((2 ^ (64 - s) : Nat) : Int) = (2 : Int) ^ (64 - s) := by simp
    have pp : (0 : Int) < 2 ^ s := by rw [← pw]; exact Int.natCast_pos.2 (Nat.two_pow_pos s)
    have eY : ((N * 2 ^ s : Nat) : Int) = (N : Int) * 2 ^ s := by rw [Int.natCast_mul, pw]
    have eU : ((H * 2 ^ s + D / 2 ^ (64 - s) : Nat) : Int) = (H : Int) * 2 ^ s + (D : Int) / 2 ^ (64 - s) := by
      rw [Int.natCast_add, Int.natCast_mul, pw, Int.natCast_ediv, pw']
    have eH : (H : Int) * 2 ^ s = ((H * 2 ^ s : Nat) : Int) := by rw [Int.natCast_mul, pw]
    have eD : (D : Int) * 2 ^ s = ((D * 2 ^ s : Nat) : Int) := by rw [Int.natCast_mul, pw]
    have eD' : (D : Int) / 2 ^ (64 - s) = ((D / 2 ^ (64 - s) : Nat) : Int) := by rw [Int.natCast_ediv, pw']
    have b1 : IntKind.u64.wrap ((N : Int) * 2 ^ s) = ((N * 2 ^ s : Nat) : Int) := by rw [← eY]; exact wrapN _ k4
    have b4 : bits .or .u64 (IntKind.u64.wrap ((H : Int) * 2 ^ s)) ((D : Int) / 2 ^ (64 - s)) = ((H * 2 ^ s + D / 2 ^ (64 - s) : Nat) : Int) := by
      rw [eH, wrapN _ p1, eD', bits_or_u64_nat _ _ p1 (by omega), p3]
    have b5 : IntKind.u64.wrap ((D : Int) * 2 ^ s) = ((D * 2 ^ s % 18446744073709551616 : Nat) : Int) := by rw [eD]; exact wrapM _
    have fin : ((N * 2 ^ s : Nat) : Int) = ((N * 2 ^ s : Nat) : Int) / 4294967296 * B32 + ((N * 2 ^ s : Nat) : Int) % 4294967296 := by unfold B32; omega
    have hN : (val (H : Int) (D : Int)) * 2 ^ s = (((H * 2 ^ s + D / 2 ^ (64 - s) : Nat) : Int) * B32 + ((D * 2 ^ s % 18446744073709551616 : Nat) : Int) / 4294967296) * B32 + ((D * 2 ^ s % 18446744073709551616 : Nat) : Int) % 4294967296 := by
      have q : (val (H : Int) (D : Int)) * 2 ^ s = (((H * 18446744073709551616 + D) * 2 ^ s : Nat) : Int) := by
        rw [Int.natCast_mul, pw, Int.natCast_add, Int.natCast_mul]; rfl
      rw [q, ← p4]
      generalize H * 2 ^ s + D / 2 ^ (64 - s) = A
      generalize D * 2 ^ s % 18446744073709551616 = C
      unfold B32
      omega
    have hyp : (0 : Int) < N := by omega
    clear eH eD eD' eU pw' p1 p2 p3 p4 hs k1 k2
    have hYp : ((N * 2 ^ s : Nat) : Int) = (N : Int) * 2 ^ s := eY
    have mD : D * 2 ^ s % 18446744073709551616 < 18446744073709551616 := Nat.mod_lt _ (by omega)
    generalize H * 2 ^ s + D / 2 ^ (64 - s) = A at *
    generalize D * 2 ^ s % 18446744073709551616 = C at *
    generalize N * 2 ^ s = Y at *
    have ok : DOk ((Y : Int) / 4294967296) ((Y : Int) % 4294967296) (A : Int) ((C : Int) / 4294967296) := by
      refine ⟨?_, ?_, ?_, ?_, ?_, ?_, ?_, ?_⟩ <;> (try unfold B32) <;> omega
    obtain ⟨Q, P, R, g1, g2, g3, g4, g5⟩ := dbegin ok (by omega)
    refine (div64_big (H : Int) (D : Int) (N : Int) s (Y : Int) ((Y : Int) / 4294967296) ((Y : Int) % 4294967296) (A : Int) (C : Int) ((C : Int) / 4294967296) ((C : Int) % 4294967296) Q P R w h0 h1 h2 hyp (by omega) lz s1 b1 rfl (maskI _ (by omega) (by omega)) b4 b5 rfl (maskI _ (by omega) (by omega)) (beq_eq_false_iff_ne.2 (by omega)) g1 g2 g3 fin (show (Y : Int) < 18446744073709551616 by omega) ok ⟨g4, g5⟩ (by omega) (by omega) (by omega) (by omega) (by omega) (by omega) (by omega) (by omega)).mono ?_
    rintro e w' ⟨⟨q1, q2, r, rfl, f1, f2⟩, rfl⟩
    refine ⟨⟨r, ?_⟩, 0, rfl⟩
    have e := quo_of pp hyp hYp fin hN f1 f2
    have c1 := f1.q0
    have c2 := f1.qb
    have c3 := f2.q0
    have c4 := f2.qb
    rw [← e]
    refine retU2 ?_ rfl
    simp only [wrapU']
    unfold B32 at *
    omega

end Go.Proofs.YtbeahnehjannpaaDoor.Nm
