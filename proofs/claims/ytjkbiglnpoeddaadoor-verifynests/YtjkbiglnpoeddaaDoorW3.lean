/- The walks over package pack's writers, on: U, I, S. -/
import Derived.Test.YtjkbiglnpoeddaaDoorW2
namespace Go.Proofs.YtjkbiglnpoeddaaDoor
open Go.RowKit
set_option linter.unusedVariables false
set_option linter.unusedSimpArgs false

/-- Bytes are returned, in new memory. -/
def New (w w' : World) (e : Ending) (bs : List Int) : Prop := (∃ v, e = .returned v ∧ Own w' w.heap.size v bs) ∧ Below w.heap.size w w'
theorem nextB {w w1 w2 : World} (h1 : Below w.heap.size w w1) (h2 : Below w1.heap.size w1 w2) : Below w.heap.size w w2 := h1.trans (h2.mono h1.size)

theorem not64 (a : Nat) (h : a < 18446744073709551616) : bits .xor .u64 IntKind.u64.max (a : Int) = 18446744073709551615 - (a : Int) := by
  show IntKind.u64.wrap ((BitVec.ofInt 64 IntKind.u64.max ^^^ BitVec.ofInt 64 (a : Int)).toNat : Int) = _
  have h1 : BitVec.ofInt 64 IntKind.u64.max = BitVec.allOnes 64 := by decide
  rw [h1, BitVec.allOnes_xor, BitVec.toNat_not, ofInt_u64 a h]
  simp [IntKind.wrap, IntKind.bits, IntKind.signed]
  omega
theorem not32 (a : Nat) (h : a < 4294967296) : bits .xor .u32 IntKind.u32.max (a : Int) = 4294967295 - (a : Int) := by
  show IntKind.u32.wrap ((BitVec.ofInt 32 IntKind.u32.max ^^^ BitVec.ofInt 32 (a : Int)).toNat : Int) = _
  have h1 : BitVec.ofInt 32 IntKind.u32.max = BitVec.allOnes 32 := by decide
  rw [h1, BitVec.allOnes_xor, BitVec.toNat_not, ofInt_u32 a h]
  simp [IntKind.wrap, IntKind.bits, IntKind.signed]
  omega
theorem zig_pos {v : Int} (h : 0 ≤ v) : ((zig v : Nat) : Int) = 2 * v := by unfold zig; rw [if_neg (by omega)]; omega
theorem zig_neg {v : Int} (h : v < 0) : ((zig v : Nat) : Int) = -2 * v - 1 := by unfold zig; rw [if_pos h]; omega

/-- A text's bytes. -/
def nums (s : ByteArray) : List Int := s.data.toList.map fun b => (b.toNat : Int)
theorem nums_len (s : ByteArray) : (nums s).length = s.size := by
  unfold nums
  rw [List.length_map, Array.length_toList]
  rfl
theorem nums_cells (s : ByteArray) : Lib.strCells s = (nums s).map (Value.int .u8) := by simp [Lib.strCells, nums]
theorem nums_bys (s : ByteArray) : Bys (nums s) := by
  intro x hx
  obtain ⟨b, _, rfl⟩ := List.mem_map.1 hx
  have := b.toNat_lt
  omega
theorem nums_str (s : ByteArray) : strOfNums (nums s) = s := by
  unfold strOfNums nums
  obtain ⟨⟨l⟩⟩ := s
  congr 2
  simp only [List.map_map]
  conv => rhs; rw [← List.map_id l]
  apply List.map_congr_left
  intro b _
  simp
theorem str_nums {bs : List Int} (h : Bys bs) : nums (strOfNums bs) = bs := by
  unfold nums
  rw [strOfNums_data, List.map_map]
  induction bs with
  | nil => rfl
  | cons x r ih =>
    rw [List.map_cons, ih h.cons.2]
    congr 1
    have := h.cons.1
    simp
    omega

end Go.Proofs.YtjkbiglnpoeddaaDoor
