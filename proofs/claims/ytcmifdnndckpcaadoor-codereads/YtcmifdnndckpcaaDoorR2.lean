/- The walk over package publicanref1's sum of bytes. -/
import Derived.Test.YtcmifdnndckpcaaDoorW4
namespace Go.Proofs.YtcmifdnndckpcaaDoor
open Go.RowKit
set_option linter.unusedVariables false
set_option linter.unusedSimpArgs false

/-- One bit of the reference's round. -/
theorem r1_zero {c x : Nat} (h : c % 2 ^^^ x = 0) : r1 c x = c / 2 := by unfold r1; rw [h]; simp
theorem r1_one {c x : Nat} (h : c % 2 ^^^ x = 1) : r1 c x = c / 2 ^^^ 3988292384 := by unfold r1; rw [h]; simp
theorem low_bit (c y : Nat) : (c ^^^ y) &&& 1 = c % 2 ^^^ y % 2 := by rw [Nat.and_one_is_mod, xor_mod2]
theorem bit_lt (c y : Nat) : c % 2 ^^^ y % 2 = 0 ∨ c % 2 ^^^ y % 2 = 1 := by
  rcases Nat.mod_two_eq_zero_or_one c with h | h <;> rcases Nat.mod_two_eq_zero_or_one y with k | k <;> rw [h, k] <;> simp

set_option maxHeartbeats 2000000 in
theorem rSum_any (a : Option Addr) (n cap : Nat) (bs : List Int) (w : World) (h : By w a n cap bs) (hn : n ≤ 20000000) :
    Calls Tryd.prog 40 #[.slice a n cap] w fun e w' => e = .returned (.int .u32 (sum bs : Nat)) ∧ w = w' := by
  obtain ⟨b, o, h1, h2⟩ := h.cell
  have H1 : Hid _ := h1
  have H2 : Hid _ := h2
  have HB : Hid (Bys bs) := h.ok
  have HL : Hid _ := h.len
  clear h1 h2 h
  go_enter Tryd.func40, Tryd.ntmps40
  go_wp2_with fail
  go_loopg [3, 4] n (fun g sv iv wr => ∃ (k c : Nat), k ≤ n ∧ g = n - k ∧ sv = .int .u32 c ∧ iv = .int .i64 k ∧ wr = w ∧ c < 4294967296 ∧ Hid (c = crcL 4294967295 (bs.take k)))
  case atStart => exact ⟨0, 4294967295, Nat.zero_le _, rfl, rfl, rfl, rfl, by decide, rfl⟩
  case round =>
    obtain ⟨k, c, hk, rfl, rfl, rfl, rfl, hc, hC⟩ := hrel
    by_cases q : k < n
    · have q' : (k : Int) < (n : Int) := by omega
      obtain rfl := H1.out (by omega)
      have e1 := H2.out k q
      have hx := HB.out.getD k
      obtain ⟨x, hx'⟩ : ∃ x : Nat, (x : Int) = bs.getD k 0 := ⟨(bs.getD k 0).toNat, by omega⟩
      rw [← hx'] at e1 hx
      have X : Hid _ := hx'
      clear hx'
      go_wp2_with fail
      go_loopg [3, 5] 8 (fun g sv jv wx => ∃ (j d : Nat), j ≤ 8 ∧ g = 8 - j ∧ sv = .int .u32 d ∧ jv = .int .i64 j ∧ wx = wr ∧ d < 4294967296 ∧ Hid (d = rK x j c))
      case atStart => exact ⟨0, c, Nat.zero_le _, rfl, rfl, rfl, rfl, hc, rfl⟩
      case round =>
        obtain ⟨j, d, hj, rfl, rfl, rfl, rfl, hd, hD⟩ := hrel
        by_cases p : j < 8
        · have p' : (j : Int) < 8 := by omega
          obtain ⟨y, hy⟩ : ∃ y : Nat, y = x / 2 ^ j := ⟨_, rfl⟩
          have y256 : y < 256 := by rw [hy]; exact Nat.lt_of_le_of_lt (Nat.div_le_self _ _) (by omega)
          have s0 : (x : Int) / 2 ^ j = (y : Int) := by rw [hy]; push_cast; rfl
          have m0 : (y : Int) % 4294967296 = (y : Int) := by omega
          have r1' := u32_xor_nat d y hd (by omega)
          obtain ⟨e, he⟩ : ∃ e : Nat, e = d ^^^ y := ⟨_, rfl⟩
          have e32 : e < 4294967296 := by rw [he]; exact xor_lt32 hd (by omega)
          rw [← he] at r1'
          have r2 := u32_and_nat e 1 e32 (by decide)
          rw [he, low_bit] at r2
          rw [show ((1 : Nat) : Int) = 1 from rfl] at r2
          rw [← he] at r2
          obtain ⟨f, hf⟩ : ∃ f : Nat, f = d / 2 := ⟨_, rfl⟩
          have s1 : (d : Int) / 2 = (f : Int) := by omega
          have RK : Hid (rK x (j + 1) c = r1 d (y % 2)) := by show rK x (j + 1) c = _; rw [hD.out, hy]; rfl
          rcases bit_lt d y with q0 | q1
          · rw [q0] at r2
            rw [show ((0 : Nat) : Int) = 0 from rfl] at r2
            have D2 : Hid (f = rK x (j + 1) c) := by show f = _; rw [RK.out, r1_zero q0, hf]
            have f32 : f < 4294967296 := by omega
            clear hy he hf q0
            go_wp2
            go_roundg (8 - (j + 1))
            case measure => omega
            case rel => exact ⟨j + 1, f, by omega, rfl, rfl, by go_num, rfl, f32, D2⟩
          · rw [q1] at r2
            rw [show ((1 : Nat) : Int) = 1 from rfl] at r2
            have r3 := u32_xor_nat f 3988292384 (by omega) (by decide)
            obtain ⟨z, hz⟩ : ∃ z : Nat, z = f ^^^ 3988292384 := ⟨_, rfl⟩
            have z32 : z < 4294967296 := by rw [hz]; exact xor_lt32 (by omega) (by decide)
            rw [← hz, show ((3988292384 : Nat) : Int) = 3988292384 from rfl] at r3
            have D2 : Hid (z = rK x (j + 1) c) := by show z = _; rw [RK.out, r1_one q1, hz, hf]
            clear hy he hf q1 hz
            go_wp2
            go_roundg (8 - (j + 1))
            case measure => omega
            case rel => exact ⟨j + 1, z, by omega, rfl, rfl, by go_num, rfl, z32, D2⟩
        · obtain rfl : j = 8 := by omega
          have C3 : Hid (d = crcL 4294967295 (bs.take (k + 1))) := by
            show d = _
            have ek : k < bs.length := by rw [HL.out]; exact q
            rw [List.take_succ_eq_append_getElem ek, crcL_snoc, ← hC.out, hD.out, rK_crc (by omega)]
            have : (bs[k]).toNat = x := by
              have e : bs.getD k 0 = bs[k] := by simp [List.getD, ek]
              rw [← e, ← X.out]; rfl
            rw [this]
          go_wp2
          go_roundg (n - (k + 1))
          case measure => omega
          case rel => exact ⟨k + 1, d, by omega, rfl, rfl, by go_num, rfl, hd, C3⟩
    · obtain rfl : k = n := by omega
      have e : c = crcL 4294967295 bs := by
        have := hC.out
        rw [List.take_of_length_le (by rw [HL.out]; exact Nat.le_refl _)] at this
        exact this
      have r := not32 c hc
      obtain ⟨s, hs⟩ : ∃ s : Nat, s = sum bs := ⟨_, rfl⟩
      have es : 4294967295 - (c : Int) = (s : Int) := by rw [hs]; unfold sum; rw [← e]; omega
      rw [es] at r
      have S : Hid _ := hs
      clear e hs es
      go_wp2
      go_ret
      exact ⟨by rw [S.out]; rfl, rfl⟩

end Go.Proofs.YtcmifdnndckpcaaDoor
