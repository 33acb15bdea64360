/- The walks over package pack's writers, on: U, I, S. -/
import Derived.Test.YtcmifdnndckpcaaDoorW2
namespace Go.Proofs.YtcmifdnndckpcaaDoor
open Go.RowKit
set_option linter.unusedVariables false
set_option linter.unusedSimpArgs false

/-- Bytes are returned, in new memory. -/
def New (w w' : World) (e : Ending) (bs : List Int) : Prop := (∃ v, e = .returned v ∧ Own w' w.heap.size v bs) ∧ Below w.heap.size w w'
theorem nextB {w w1 w2 : World} (h1 : Below w.heap.size w w1) (h2 : Below w1.heap.size w1 w2) : Below w.heap.size w w2 := h1.trans (h2.mono h1.size)

set_option maxHeartbeats 1000000 in
theorem pU_any (a : Option Addr) (n cap u : Nat) (bs : List Int) (w : World) (h : By w a n cap bs) (hn : n ≤ 20000000) (hu : u < 18446744073709551616) :
    Calls Tryd.prog 60 #[.slice a n cap, .int .u64 u] w fun e w' => New w w' e (bs ++ enc u) := by
  have H : Hid _ := h
  clear h
  go_enter Tryd.func60, Tryd.ntmps60
  go_wp2_with (first | (go_at_call 79; refine (copied_any a n cap 10 bs w H.out hn (by omega)).mono ?_; rintro e w1 ⟨⟨v1, rfl, o1⟩, b1⟩) | (go_at_call 78; refine (number_own v1 u w.heap.size bs w1 o1 b1.size (by rw [H.out.len]; omega) hu).mono ?_; rintro e w2 ⟨⟨v2, rfl, o2⟩, b2⟩))
  go_ret
  exact ⟨⟨v2, rfl, o2⟩, b1.trans b2⟩

theorem not64 (a : Nat) (h : a < 18446744073709551616) : bits .xor .u64 IntKind.u64.max (a : Int) = 18446744073709551615 - (a : Int) := by
  show IntKind.u64.wrap ((BitVec.ofInt 64 IntKind.u64.max ^^^ BitVec.ofInt 64 (a : Int)).toNat : Int) = _
  have h1 : BitVec.ofInt 64 IntKind.u64.max = BitVec.allOnes 64 := by decide
  rw [h1, BitVec.allOnes_xor, BitVec.toNat_not, ofInt_u64 a h]
  simp [IntKind.wrap, IntKind.bits, IntKind.signed]
  omega
theorem not32 (a : Nat) (h : a < 4294967296) : bits .xor .u32 IntKind.u32.max (a : Int) = 4294967295 - (a : Int) := by
  show IntKind.u32.wrap ((BitVec.ofInt 32 IntKind.u32.max ^^^ BitVec.ofInt 32 (a : Int)).toNat : Int) = _
  have h1 : BitVec.ofInt 32 IntKind.u32.max = BitVec.allOnes 32 := by decide
  rw [h1, BitVec.allOnes_xor, BitVec.toNat_not, ofInt_u32 a h]
  simp [IntKind.wrap, IntKind.bits, IntKind.signed]
  omega
theorem zig_pos {v : Int} (h : 0 ≤ v) : ((zig v : Nat) : Int) = 2 * v := by unfold zig; rw [if_neg (by omega)]; omega
theorem zig_neg {v : Int} (h : v < 0) : ((zig v : Nat) : Int) = -2 * v - 1 := by unfold zig; rw [if_pos h]; omega

set_option maxHeartbeats 1000000 in
theorem pI_any (a : Option Addr) (n cap : Nat) (v : Int) (bs : List Int) (w : World) (h : By w a n cap bs) (hn : n ≤ 20000000) (h0 : -9223372036854775808 ≤ v) (h1 : v < 9223372036854775808) :
    Calls Tryd.prog 63 #[.slice a n cap, .int .i64 v] w fun e w' => New w w' e (bs ++ enc (zig v)) := by
  have H : Hid _ := h
  have Z : Hid _ := zig_lt h0 h1
  clear h
  by_cases c : v < 0
  · have r : bits .xor .u64 IntKind.u64.max (IntKind.u64.wrap (2 * IntKind.u64.wrap v)) = ((zig v : Nat) : Int) := by
      have e : IntKind.u64.wrap (2 * IntKind.u64.wrap v) = ((2 * v + 18446744073709551616).toNat : Int) := by rw [IntKind.wrap_u64, IntKind.wrap_u64]; omega
      rw [e, not64 _ (by omega), zig_neg c]
      omega
    generalize zig v = z at *
    go_enter Tryd.func63, Tryd.ntmps63
    go_wp2_with fail
    refine (pU_any a n cap z bs w H.out hn Z.out).mono ?_
    rintro e w1 ⟨⟨v1, rfl, o1⟩, b1⟩
    go_wp2
    go_ret
    exact ⟨⟨v1, rfl, o1⟩, b1⟩
  · have c' : ¬ v < 0 := c
    have r := zig_pos (show 0 ≤ v by omega)
    generalize zig v = z at *
    have R : Hid _ := r
    clear r
    go_enter Tryd.func63, Tryd.ntmps63
    go_wp2_with fail
    rw [← R.out]
    refine (pU_any a n cap z bs w H.out hn Z.out).mono ?_
    rintro e w1 ⟨⟨v1, rfl, o1⟩, b1⟩
    go_wp2
    go_ret
    exact ⟨⟨v1, rfl, o1⟩, b1⟩

/-- A text's bytes. -/
def nums (s : ByteArray) : List Int := s.data.toList.map fun b => (b.toNat : Int)
theorem nums_len (s : ByteArray) : (nums s).length = s.size := by
  unfold nums
  rw [List.length_map, Array.length_toList]
  rfl
theorem nums_cells (s : ByteArray) : Lib.strCells s = (nums s).map (Value.int .u8) := by simp [Lib.strCells, nums]
theorem nums_bys (s : ByteArray) : Bys (nums s) := by
  intro x hx
  obtain ⟨b, _, rfl⟩ := List.mem_map.1 hx
  have := b.toNat_lt
  omega
theorem nums_str (s : ByteArray) : strOfNums (nums s) = s := by
  unfold strOfNums nums
  obtain ⟨⟨l⟩⟩ := s
  congr 2
  simp only [List.map_map]
  conv => rhs; rw [← List.map_id l]
  apply List.map_congr_left
  intro b _
  simp
theorem str_nums {bs : List Int} (h : Bys bs) : nums (strOfNums bs) = bs := by
  unfold nums
  rw [strOfNums_data, List.map_map]
  induction bs with
  | nil => rfl
  | cons x r ih =>
    rw [List.map_cons, ih h.cons.2]
    congr 1
    have := h.cons.1
    simp
    omega

set_option maxHeartbeats 1000000 in
theorem pS_any (a : Option Addr) (n cap : Nat) (s : ByteArray) (bs : List Int) (w : World) (h : By w a n cap bs) (hn : n ≤ 10000000) (hs : s.size ≤ 10000000) :
    Calls Tryd.prog 64 #[.slice a n cap, .string s] w fun e w' => New w w' e (bs ++ enc s.size ++ nums s) := by
  obtain ⟨i0, hi, hz0, hz1, hz2⟩ := info_parts byteInfo
  have HI : Hid _ := hi
  have HZ : Hid _ := And.intro hz0 (And.intro hz1 hz2)
  have H : Hid _ := h
  have L10 : Hid _ := enc_len10 (show s.size < 18446744073709551616 by omega)
  clear h hi hz0 hz1 hz2
  go_enter Tryd.func64, Tryd.ntmps64
  go_wp2_with (first | (go_at_call 79; refine (copied_any a n cap (10 + s.size) bs w H.out (by omega) (by omega)).mono ?_; rintro e w1 ⟨⟨v1, rfl, o1⟩, b1⟩) | (go_at_call 78; refine (number_own v1 s.size w.heap.size bs w1 o1 b1.size (by rw [H.out.len]; omega) (by omega)).mono ?_; rintro e w2 ⟨⟨v2, rfl, o2⟩, b2⟩) | (at_builtin; refine Lib.wpList_append_own_string _ rfl (.tmp 13) (.tmp 14) 38 9 rfl w.heap.size 5 i0 Tryd.underlying38 Tryd.underlying9 HI.out HZ.out.1 HZ.out.2.1 HZ.out.2.2 v2 _ _ rfl o2.row s rfl (by have := L10.out; have := H.out.len; simp; unfold maxLen; omega) (by have := L10.out; have := H.out.len; simp; omega) (Nat.le_trans b1.size b2.size) ?_; intro v3 w3 o3 g3 _))
  go_ret
  have B : Below w.heap.size w w2 := b1.trans b2
  refine ⟨⟨v3, rfl, ⟨?_, (o2.ok.app (nums_bys s))⟩⟩, B.grown g3 (Nat.le_trans b1.size b2.size) (fun k hk => (o2.row.lt k hk).1)⟩
  rw [nums_cells, ← List.map_append] at o3
  have e : (bs ++ enc s.size ++ nums s).length = (bs ++ enc s.size).length + s.size := by rw [List.length_append, nums_len]
  rw [e]
  exact o3

end Go.Proofs.YtcmifdnndckpcaaDoor
