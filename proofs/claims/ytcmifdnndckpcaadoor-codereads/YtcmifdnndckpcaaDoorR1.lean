/- The walks over package publicanref1: numbers and texts in bytes. -/
import Derived.Test.YtcmifdnndckpcaaDoorW7
namespace Go.Proofs.YtcmifdnndckpcaaDoor
open Go.RowKit
set_option linter.unusedVariables false
set_option linter.unusedSimpArgs false

set_option maxHeartbeats 1000000 in
theorem rPutU_any (a : Option Addr) (n cap u : Nat) (bs : List Int) (w : World) (h : By w a n cap bs) (hn : n ≤ 20000000) (hu : u < 18446744073709551616) :
    Calls Tryd.prog 67 #[.slice a n cap, .int .u64 u] w fun e w' => New w w' e (bs ++ enc u) := by
  have L10 : Hid _ := enc_len10 hu
  have H : Hid _ := h
  have HL : Hid _ := h.len
  clear h
  go_enter Tryd.func67, Tryd.ntmps67
  go_wp2_with (at_builtin; refine wpList_append_by rfl (.tmp 6) (.tmp 7) rfl w.heap.size _ [] rfl (own_empty w) a n cap bs rfl (H.out.below (allocB w _)) (by simp; omega) (by simp) ?_; intro v0 w0 o0 g0)
  rw [List.nil_append] at o0
  have B0 : Hid (Below w.heap.size w w0) := (allocB w _).grown g0 (by simp) (fun k hk => ((own_empty w).row.lt k hk).1)
  have O0 : Hid _ := o0
  clear o0 g0
  go_loopg [1, 5] u (fun g uv vv wr => ∃ (x : Nat) (pre : List Int), uv = .int .u64 x ∧ g = x ∧ x < 18446744073709551616 ∧ Hid (Own wr w.heap.size vv (bs ++ pre)) ∧ Hid (enc u = pre ++ enc x) ∧ Hid (Below w.heap.size w wr) ∧ w.heap.size ≤ wr.heap.size)
  case atStart => exact ⟨u, [], rfl, rfl, hu, by simpa using O0, rfl, B0.out, B0.out.size⟩
  case round =>
    obtain ⟨x, pre, rfl, rfl, hx, hO, hE, hL, hS⟩ := hrel
    have hpl : Hid (pre.length ≤ 9) := by
      have e := L10.out
      rw [hE.out, List.length_append] at e
      have := enc_pos gk
      show pre.length ≤ 9
      omega
    by_cases c : gk < 128
    · have c' : ¬ (128 : Int) ≤ (gk : Int) := by omega
      have m8 : (gk : Int) % 256 = gk := by omega
      go_wp2_with (at_builtin; refine wpList_append_by rfl (.tmp 20) (.tmp 23) rfl w.heap.size _ (bs ++ pre) rfl (hO.out.below (allocB wr _)) (some ⟨wr.heap.size, 0, none⟩) 1 1 [(gk : Int)] rfl (by_new _ _ _ (by omega) (by omega)) (by have := hpl.out; have := HL.out; simp; omega) (by simp; omega) ?_; intro v2 w2 o2 g2)
      go_ret
      rw [List.append_assoc, ← enc_lt c, ← hE.out] at o2
      have B2 := (hL.out.alloc hS (.cells #[.int .u8 (gk : Int)] 5)).grown g2 (by simp; omega) (fun k hk => (hO.out.row.lt k hk).1)
      exact ⟨⟨v2, rfl, o2⟩, B2⟩
    · have c' : (128 : Int) ≤ (gk : Int) := by omega
      obtain ⟨y, hy⟩ : ∃ y : Int, y = ((gk % 128 + 128 : Nat) : Int) := ⟨_, rfl⟩
      obtain ⟨q, hq⟩ : ∃ q : Nat, q = gk / 128 := ⟨_, rfl⟩
      have sh : (gk : Int) / 128 = (q : Int) := by omega
      have s1 : (gk : Int) % 128 + 128 = y := by omega
      have E2 : Hid (enc u = (pre ++ [y]) ++ enc q) := by show enc u = _; rw [hE.out, enc_ge (by omega), hy, hq]; simp
      have y0 : 0 ≤ y ∧ y < 256 := by omega
      have qg : Hid (q < gk) := by show q < gk; omega
      clear hy hq
      go_wp2_with (at_builtin; refine wpList_append_by rfl (.tmp 11) (.tmp 16) rfl w.heap.size _ (bs ++ pre) rfl (hO.out.below (allocB wr _)) (some ⟨wr.heap.size, 0, none⟩) 1 1 [y] rfl (by_new _ _ _ y0.1 y0.2) (by have := hpl.out; have := HL.out; simp; omega) (by simp; omega) ?_; intro v2 w2 o2 g2)
      go_roundg q
      case measure => exact qg.out
      case rel =>
        rw [List.append_assoc] at o2
        have B2 := (hL.out.alloc hS (.cells #[.int .u8 y] 5)).grown g2 (by simp; omega) (fun k hk => (hO.out.row.lt k hk).1)
        exact ⟨q, pre ++ [y], rfl, rfl, by have := qg.out; omega, o2, E2.out, B2, by have := g2.size; simp at this; omega⟩

set_option maxHeartbeats 1000000 in
theorem rPutI_any (a : Option Addr) (n cap : Nat) (v : Int) (bs : List Int) (w : World) (h : By w a n cap bs) (hn : n ≤ 20000000) (h0 : -9223372036854775808 ≤ v) (h1 : v < 9223372036854775808) :
    Calls Tryd.prog 36 #[.slice a n cap, .int .i64 v] w fun e w' => New w w' e (bs ++ enc (zig v)) := by
  have H : Hid _ := h
  have Z : Hid _ := zig_lt h0 h1
  clear h
  by_cases c : v < 0
  · have c' : ¬ 0 ≤ v := by omega
    have r := zig_neg c
    generalize zig v = z at *
    have R : Hid (2 * -(v + 1) + 1 = (z : Int)) := by show 2 * -(v + 1) + 1 = (z : Int); omega
    clear r
    go_enter Tryd.func36, Tryd.ntmps36
    go_wp2_with fail
    rw [R.out]
    refine (rPutU_any a n cap z bs w H.out hn Z.out).mono ?_
    rintro e w1 ⟨⟨v1, rfl, o1⟩, b1⟩
    go_wp2
    go_ret
    exact ⟨⟨v1, rfl, o1⟩, b1⟩
  · have c' : 0 ≤ v := by omega
    have r := zig_pos (show 0 ≤ v by omega)
    generalize zig v = z at *
    have R : Hid _ := r
    clear r
    go_enter Tryd.func36, Tryd.ntmps36
    go_wp2_with fail
    rw [← R.out]
    refine (rPutU_any a n cap z bs w H.out hn Z.out).mono ?_
    rintro e w1 ⟨⟨v1, rfl, o1⟩, b1⟩
    go_wp2
    go_ret
    exact ⟨⟨v1, rfl, o1⟩, b1⟩

set_option maxHeartbeats 1000000 in
theorem rPutS_any (a : Option Addr) (n cap : Nat) (s : ByteArray) (bs : List Int) (w : World) (h : By w a n cap bs) (hn : n ≤ 10000000) (hs : s.size ≤ 10000000) :
    Calls Tryd.prog 39 #[.slice a n cap, .string s] w fun e w' => New w w' e (bs ++ enc s.size ++ nums s) := by
  obtain ⟨i0, hi, hz0, hz1, hz2⟩ := info_parts byteInfo
  have HI : Hid _ := hi
  have HZ : Hid _ := And.intro hz0 (And.intro hz1 hz2)
  have H : Hid _ := h
  have L10 : Hid _ := enc_len10 (show s.size < 18446744073709551616 by omega)
  clear h hi hz0 hz1 hz2
  go_enter Tryd.func39, Tryd.ntmps39
  go_wp2_with (first | (go_at_call 67; refine (rPutU_any a n cap s.size bs w H.out (by omega) (by omega)).mono ?_; rintro e w2 ⟨⟨v2, rfl, o2⟩, b2⟩) | (at_builtin; refine Lib.wpList_append_own_string _ rfl (.tmp 9) (.tmp 10) 38 9 rfl w.heap.size 5 i0 Tryd.underlying38 Tryd.underlying9 HI.out HZ.out.1 HZ.out.2.1 HZ.out.2.2 v2 _ _ rfl o2.row s rfl (by have := L10.out; have := H.out.len; simp; unfold maxLen; omega) (by have := L10.out; have := H.out.len; simp; omega) b2.size ?_; intro v3 w3 o3 g3 _))
  go_ret
  refine ⟨⟨v3, rfl, ⟨?_, (o2.ok.app (nums_bys s))⟩⟩, b2.grown g3 b2.size (fun k hk => (o2.row.lt k hk).1)⟩
  rw [nums_cells, ← List.map_append] at o3
  have e : (bs ++ enc s.size ++ nums s).length = (bs ++ enc s.size).length + s.size := by rw [List.length_append, nums_len]
  rw [e]
  exact o3

end Go.Proofs.YtcmifdnndckpcaaDoor
