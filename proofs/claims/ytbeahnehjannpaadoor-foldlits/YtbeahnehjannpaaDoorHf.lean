/- The walks over package num, on: the length in bits, the quotient of two limbs. -/
import Derived.Test.YtbeahnehjannpaaDoorHd
import Derived.Test.YtbeahnehjannpaaDoorHe
import Derived.Lib.Tables
namespace Go.Proofs.YtbeahnehjannpaaDoor.Nm
open Go.RowKit
set_option linter.unusedVariables false
set_option linter.unusedSimpArgs false

theorem len_val {i : Int} (h0 : 0 ≤ i) (h1 : i ≤ 255) : Lib.len8 i = (Lib.bitLen i.toNat : Int) ∧ Lib.bitLen i.toNat ≤ 8 := ⟨Lib.len8_of i h0 h1, Lib.bitLen_le8' i h0 h1⟩

set_option maxHeartbeats 400000 in
set_option maxRecDepth 10000 in
theorem len64_c0 (x : Int) (w : World) (hx : 0 ≤ x) (hx' : x ≤ 18446744073709551615) (c0 : x < 4294967296) (c1 : x < 65536) (c2 : x < 256) :
    Calls Tryd.prog 86 #[.int .u64 x] w fun e w' => e = .returned (.int .i64 (Lib.bitLen x.toNat)) ∧ w' = w := by
  have i0 : 0 ≤ x := by omega
  have i1 : x ≤ 255 := by omega
  have e : Hid (_ ∧ _) := len_val i0 i1
  go_enter Tryd.func86, Tryd.ntmps86
  go_wp2
  go_ret
  refine ⟨retI ?_, rfl⟩
  have e' := e.out
  obtain ⟨e1, e2⟩ := e'
  rw [e1]
  generalize Lib.bitLen (x).toNat = m at *
  clear e e1 i0 i1 hx hx' c0 c1 c2
  simp only [wrap64]
  omega

set_option maxHeartbeats 400000 in
set_option maxRecDepth 10000 in
theorem len64_c1 (x : Int) (w : World) (hx : 0 ≤ x) (hx' : x ≤ 18446744073709551615) (c0 : x < 4294967296) (c1 : x < 65536) (c2 : 256 ≤ x) :
    Calls Tryd.prog 86 #[.int .u64 x] w fun e w' => e = .returned (.int .i64 (Lib.bitLen x.toNat)) ∧ w' = w := by
  have i0 : 0 ≤ x / 256 := by omega
  have i1 : x / 256 ≤ 255 := by omega
  have e : Hid (_ ∧ _) := len_val i0 i1
  go_enter Tryd.func86, Tryd.ntmps86
  go_wp2
  go_ret
  refine ⟨retI ?_, rfl⟩
  have e' := e.out
  have b8 := Lib.bitLen_shift8 (x).toNat (by omega) (by omega)
  rw [show (x).toNat / 256 = (x / 256).toNat by omega] at b8
  obtain ⟨e1, e2⟩ := e'
  rw [e1]
  rw [b8]
  clear b8
  generalize Lib.bitLen (x / 256).toNat = m at *
  clear e e1 i0 i1 hx hx' c0 c1 c2
  simp only [wrap64]
  omega

set_option maxHeartbeats 400000 in
set_option maxRecDepth 10000 in
theorem len64_c2 (x : Int) (w : World) (hx : 0 ≤ x) (hx' : x ≤ 18446744073709551615) (c0 : x < 4294967296) (c1 : 65536 ≤ x) (c2 : x / 65536 < 256) :
    Calls Tryd.prog 86 #[.int .u64 x] w fun e w' => e = .returned (.int .i64 (Lib.bitLen x.toNat)) ∧ w' = w := by
  have i0 : 0 ≤ x / 65536 := by omega
  have i1 : x / 65536 ≤ 255 := by omega
  have e : Hid (_ ∧ _) := len_val i0 i1
  go_enter Tryd.func86, Tryd.ntmps86
  go_wp2
  go_ret
  refine ⟨retI ?_, rfl⟩
  have e' := e.out
  have b16 := Lib.bitLen_shift16 (x).toNat (by omega) (by omega)
  rw [show (x).toNat / 65536 = (x / 65536).toNat by omega] at b16
  obtain ⟨e1, e2⟩ := e'
  rw [e1]
  rw [b16]
  clear b16
  generalize Lib.bitLen (x / 65536).toNat = m at *
  clear e e1 i0 i1 hx hx' c0 c1 c2
  simp only [wrap64]
  omega

set_option maxHeartbeats 400000 in
set_option maxRecDepth 10000 in
theorem len64_c3 (x : Int) (w : World) (hx : 0 ≤ x) (hx' : x ≤ 18446744073709551615) (c0 : x < 4294967296) (c1 : 65536 ≤ x) (c2 : 256 ≤ x / 65536) :
    Calls Tryd.prog 86 #[.int .u64 x] w fun e w' => e = .returned (.int .i64 (Lib.bitLen x.toNat)) ∧ w' = w := by
  have i0 : 0 ≤ x / 65536 / 256 := by omega
  have i1 : x / 65536 / 256 ≤ 255 := by omega
  have e : Hid (_ ∧ _) := len_val i0 i1
  go_enter Tryd.func86, Tryd.ntmps86
  go_wp2
  go_ret
  refine ⟨retI ?_, rfl⟩
  have e' := e.out
  have b16 := Lib.bitLen_shift16 (x).toNat (by omega) (by omega)
  rw [show (x).toNat / 65536 = (x / 65536).toNat by omega] at b16
  have b8 := Lib.bitLen_shift8 (x / 65536).toNat (by omega) (by omega)
  rw [show (x / 65536).toNat / 256 = (x / 65536 / 256).toNat by omega] at b8
  obtain ⟨e1, e2⟩ := e'
  rw [e1]
  rw [b16]
  rw [b8]
  clear b16 b8
  generalize Lib.bitLen (x / 65536 / 256).toNat = m at *
  clear e e1 i0 i1 hx hx' c0 c1 c2
  simp only [wrap64]
  omega

set_option maxHeartbeats 400000 in
set_option maxRecDepth 10000 in
theorem len64_c4 (x : Int) (w : World) (hx : 0 ≤ x) (hx' : x ≤ 18446744073709551615) (c0 : 4294967296 ≤ x) (c1 : x / 4294967296 < 65536) (c2 : x / 4294967296 < 256) :
    Calls Tryd.prog 86 #[.int .u64 x] w fun e w' => e = .returned (.int .i64 (Lib.bitLen x.toNat)) ∧ w' = w := by
  have i0 : 0 ≤ x / 4294967296 := by omega
  have i1 : x / 4294967296 ≤ 255 := by omega
  have e : Hid (_ ∧ _) := len_val i0 i1
  go_enter Tryd.func86, Tryd.ntmps86
  go_wp2
  go_ret
  refine ⟨retI ?_, rfl⟩
  have e' := e.out
  have b32 := Lib.bitLen_shift32 (x).toNat (by omega) (by omega)
  rw [show (x).toNat / 4294967296 = (x / 4294967296).toNat by omega] at b32
  obtain ⟨e1, e2⟩ := e'
  rw [e1]
  rw [b32]
  clear b32
  generalize Lib.bitLen (x / 4294967296).toNat = m at *
  clear e e1 i0 i1 hx hx' c0 c1 c2
  simp only [wrap64]
  omega

set_option maxHeartbeats 400000 in
set_option maxRecDepth 10000 in
theorem len64_c5 (x : Int) (w : World) (hx : 0 ≤ x) (hx' : x ≤ 18446744073709551615) (c0 : 4294967296 ≤ x) (c1 : x / 4294967296 < 65536) (c2 : 256 ≤ x / 4294967296) :
    Calls Tryd.prog 86 #[.int .u64 x] w fun e w' => e = .returned (.int .i64 (Lib.bitLen x.toNat)) ∧ w' = w := by
  have i0 : 0 ≤ x / 4294967296 / 256 := by omega
  have i1 : x / 4294967296 / 256 ≤ 255 := by omega
  have e : Hid (_ ∧ _) := len_val i0 i1
  go_enter Tryd.func86, Tryd.ntmps86
  go_wp2
  go_ret
  refine ⟨retI ?_, rfl⟩
  have e' := e.out
  have b32 := Lib.bitLen_shift32 (x).toNat (by omega) (by omega)
  rw [show (x).toNat / 4294967296 = (x / 4294967296).toNat by omega] at b32
  have b8 := Lib.bitLen_shift8 (x / 4294967296).toNat (by omega) (by omega)
  rw [show (x / 4294967296).toNat / 256 = (x / 4294967296 / 256).toNat by omega] at b8
  obtain ⟨e1, e2⟩ := e'
  rw [e1]
  rw [b32]
  rw [b8]
  clear b32 b8
  generalize Lib.bitLen (x / 4294967296 / 256).toNat = m at *
  clear e e1 i0 i1 hx hx' c0 c1 c2
  simp only [wrap64]
  omega

set_option maxHeartbeats 400000 in
set_option maxRecDepth 10000 in
theorem len64_c6 (x : Int) (w : World) (hx : 0 ≤ x) (hx' : x ≤ 18446744073709551615) (c0 : 4294967296 ≤ x) (c1 : 65536 ≤ x / 4294967296) (c2 : x / 4294967296 / 65536 < 256) :
    Calls Tryd.prog 86 #[.int .u64 x] w fun e w' => e = .returned (.int .i64 (Lib.bitLen x.toNat)) ∧ w' = w := by
  have i0 : 0 ≤ x / 4294967296 / 65536 := by omega
  have i1 : x / 4294967296 / 65536 ≤ 255 := by omega
  have e : Hid (_ ∧ _) := len_val i0 i1
  go_enter Tryd.func86, Tryd.ntmps86
  go_wp2
  go_ret
  refine ⟨retI ?_, rfl⟩
  have e' := e.out
  have b32 := Lib.bitLen_shift32 (x).toNat (by omega) (by omega)
  rw [show (x).toNat / 4294967296 = (x / 4294967296).toNat by omega] at b32
  have b16 := Lib.bitLen_shift16 (x / 4294967296).toNat (by omega) (by omega)
  rw [show (x / 4294967296).toNat / 65536 = (x / 4294967296 / 65536).toNat by omega] at b16
  obtain ⟨e1, e2⟩ := e'
  rw [e1]
  rw [b32]
  rw [b16]
  clear b32 b16
  generalize Lib.bitLen (x / 4294967296 / 65536).toNat = m at *
  clear e e1 i0 i1 hx hx' c0 c1 c2
  simp only [wrap64]
  omega

set_option maxHeartbeats 400000 in
set_option maxRecDepth 10000 in
theorem len64_c7 (x : Int) (w : World) (hx : 0 ≤ x) (hx' : x ≤ 18446744073709551615) (c0 : 4294967296 ≤ x) (c1 : 65536 ≤ x / 4294967296) (c2 : 256 ≤ x / 4294967296 / 65536) :
    Calls Tryd.prog 86 #[.int .u64 x] w fun e w' => e = .returned (.int .i64 (Lib.bitLen x.toNat)) ∧ w' = w := by
  have i0 : 0 ≤ x / 4294967296 / 65536 / 256 := by omega
  have i1 : x / 4294967296 / 65536 / 256 ≤ 255 := by omega
  have e : Hid (_ ∧ _) := len_val i0 i1
  go_enter Tryd.func86, Tryd.ntmps86
  go_wp2
  go_ret
  refine ⟨retI ?_, rfl⟩
  have e' := e.out
  have b32 := Lib.bitLen_shift32 (x).toNat (by omega) (by omega)
  rw [show (x).toNat / 4294967296 = (x / 4294967296).toNat by omega] at b32
  have b16 := Lib.bitLen_shift16 (x / 4294967296).toNat (by omega) (by omega)
  rw [show (x / 4294967296).toNat / 65536 = (x / 4294967296 / 65536).toNat by omega] at b16
  have b8 := Lib.bitLen_shift8 (x / 4294967296 / 65536).toNat (by omega) (by omega)
  rw [show (x / 4294967296 / 65536).toNat / 256 = (x / 4294967296 / 65536 / 256).toNat by omega] at b8
  obtain ⟨e1, e2⟩ := e'
  rw [e1]
  rw [b32]
  rw [b16]
  rw [b8]
  clear b32 b16 b8
  generalize Lib.bitLen (x / 4294967296 / 65536 / 256).toNat = m at *
  clear e e1 i0 i1 hx hx' c0 c1 c2
  simp only [wrap64]
  omega

end Go.Proofs.YtbeahnehjannpaaDoor.Nm
