/- The walks over package disk, on: Read, New. -/
import Derived.Test.YtblmfkdcahhhbaaDoorD5
import Derived.Deep.OwnRows
namespace Go.Proofs.YtblmfkdcahhhbaaDoor
open Go.RowKit
set_option linter.unusedVariables false
set_option linter.unusedSimpArgs false

def rE (n : Nat) (s : St) (i : Int) : Int := if has n i = true then (if s.on = true then 0 else 4) else 1
theorem rE_no {n : Nat} {s : St} {i : Int} (h : has n i = false) : rE n s i = 1 := by unfold rE; rw [if_neg (by simp [h])]
theorem rE_off {n : Nat} {s : St} {i : Int} (h : has n i = true) (o : s.on = false) : rE n s i = 4 := by unfold rE; rw [if_pos h, if_neg (by simp [o])]
theorem rE_yes {n : Nat} {s : St} {i : Int} (h : has n i = true) (o : s.on = true) : rE n s i = 0 := by unfold rE; rw [if_pos h, if_pos o]

theorem make64 (w : World) (k : Nat) : (Instr.makeSlice 32 (.int .i64 (k : Nat)) (.int .i64 (k : Nat))).run Tryd.prog w = .ok (.slice (some ⟨w.heap.size, 0, none⟩) k k) (w.alloc (.cells (vals (List.replicate k 0)).toArray 5)) ∨ 100000 < k := by
  by_cases h : k ≤ 100000
  · left
    rw [run_make_row' 32 5 (.int .u8 0) 1 Tryd.underlying32 byteInfo rfl .i64 .i64 k (by omega) (by omega) w]
    have e : madeCells #[.int .u8 0] k = (vals (List.replicate k 0)).toArray := by
      apply Array.toList_inj.1
      rw [toList_madeCells_one]
      simp [vals]
    rw [e]
  · right; omega
theorem make_z (w : World) (k : Nat) (h : k ≤ 100000) : (Instr.makeSlice 32 (.int .i64 (k : Nat)) (.int .i64 (k : Nat))).run Tryd.prog w = .ok (.slice (some ⟨w.heap.size, 0, none⟩) k k) (w.alloc (.cells (vals (List.replicate k 0)).toArray 5)) := by
  rcases make64 w k with e | e
  · exact e
  · omega
theorem pad_full {b : List Int} (h : b.length = 64) : pad b = b := by unfold pad; rw [h]; simp
theorem Dk.by {w : World} {p q n i : Nat} {s : St} (h : Dk w p q n s) (hi : i < n) : By w (some ⟨q, i * 64, none⟩) 64 64 (s.sec i) :=
  ⟨h.ok.len i, Nat.le_refl _, by decide, fun e => by simp at e, ⟨q, i * 64, fun _ => rfl, fun j hj => h.cell hi hj⟩, h.ok.bys i⟩

set_option maxHeartbeats 2000000 in
theorem Read_no (p q n : Nat) (s : St) (i : Int) (w : World) (h : Dk w p q n s) (hr : has n i = false ∨ s.on = false) :
    Calls Tryd.prog 57 #[.pointer (some ⟨p, 0, none⟩), .int .i64 i] w fun e w' => e = .returned (.tuple #[.slice none 0 0, .int .i64 (rE n s i)]) ∧ w = w' := by
  have HA : Hid _ := has_any p q n s i w h
  have c1 := h.c1
  clear h
  by_cases hh : has n i = true
  · have ho : s.on = false := by
      rcases hr with r | r
      · rw [hh] at r; cases r
      · exact r
    rw [rE_off hh ho]
    rw [hh] at HA
    rw [ho] at c1
    clear hr ho hh
    go_enter Tryd.func57, Tryd.ntmps57
    go_wp2_with (go_at_call 46; refine Calls.mono HA.out ?_; rintro e w1 ⟨rfl, rfl⟩)
    go_ret2
    exact ⟨rfl, rfl⟩
  · have hf : has n i = false := by simpa using hh
    rw [rE_no hf]
    rw [hf] at HA
    clear hr hh hf
    go_enter Tryd.func57, Tryd.ntmps57
    go_wp2_with (go_at_call 46; refine Calls.mono HA.out ?_; rintro e w1 ⟨rfl, rfl⟩)
    go_ret2
    exact ⟨rfl, rfl⟩

set_option maxRecDepth 100000 in
set_option maxHeartbeats 2000000 in
theorem Read_yes (p q n : Nat) (s : St) (k : Nat) (w : World) (h : Dk w p q n s) (hk : k < n) (ho : s.on = true) :
    Calls Tryd.prog 57 #[.pointer (some ⟨p, 0, none⟩), .int .i64 (k : Nat)] w fun e w' => e = .returned (.tuple #[.slice (some ⟨w.heap.size, 0, none⟩) 64 64, .int .i64 0]) ∧ w.alloc (.cells (vals (s.sec k)).toArray 5) = w' := by
  have HA : Hid _ := has_any p q n s k w h
  have hh : has n k = true := decide_eq_true ⟨by omega, by omega⟩
  rw [hh] at HA
  have c1 := h.c1
  rw [ho] at c1
  obtain ⟨cap, c0, hc1, hc2⟩ := h.c0
  have hps := h.ltp
  have mk : (Instr.makeSlice 32 (.int .i64 64) (.int .i64 64)).run Tryd.prog w = .ok (.slice (some ⟨w.heap.size, 0, none⟩) 64 64) (w.alloc (.cells (vals zero64).toArray 5)) := make_z w 64 (by decide)
  have cp := copy_new w 5 3 (some ⟨q, k * 64, none⟩) 64 64 (s.sec k) (h.by hk) (by decide)
  rw [pad_full (h.ok.len k)] at cp
  generalize vals (s.sec k) = C at *
  generalize vals zero64 = Z at *
  have S1 : (w.alloc (.cells Z.toArray 5)).cell? ⟨p, 0, none⟩ = some (.slice (some ⟨q, 0, none⟩) n cap) := by rw [World.cell?_alloc_lt _ _ _ hps]; exact c0
  have hin : (k : Int) < (n : Int) := by omega
  have hi0 : (0 : Int) ≤ (k : Int) := by omega
  clear h hh ho hc1 hc2
  go_enter Tryd.func57, Tryd.ntmps57
  go_wp2_with (go_at_call 46; refine Calls.mono HA.out ?_; rintro e w1 ⟨rfl, rfl⟩)
  go_ret2
  exact ⟨rfl, rfl⟩

theorem blockInfo : (Tryd.prog.info? 114).map (fun i => (i.zero, i.size, i.bytes)) = some (some (.agg #[.int .u8 0, .int .u8 0, .int .u8 0, .int .u8 0, .int .u8 0, .int .u8 0, .int .u8 0, .int .u8 0, .int .u8 0, .int .u8 0, .int .u8 0, .int .u8 0, .int .u8 0, .int .u8 0, .int .u8 0, .int .u8 0, .int .u8 0, .int .u8 0, .int .u8 0, .int .u8 0, .int .u8 0, .int .u8 0, .int .u8 0, .int .u8 0, .int .u8 0, .int .u8 0, .int .u8 0, .int .u8 0, .int .u8 0, .int .u8 0, .int .u8 0, .int .u8 0, .int .u8 0, .int .u8 0, .int .u8 0, .int .u8 0, .int .u8 0, .int .u8 0, .int .u8 0, .int .u8 0, .int .u8 0, .int .u8 0, .int .u8 0, .int .u8 0, .int .u8 0, .int .u8 0, .int .u8 0, .int .u8 0, .int .u8 0, .int .u8 0, .int .u8 0, .int .u8 0, .int .u8 0, .int .u8 0, .int .u8 0, .int .u8 0, .int .u8 0, .int .u8 0, .int .u8 0, .int .u8 0, .int .u8 0, .int .u8 0, .int .u8 0, .int .u8 0]), 64, 64) := by kernel_rfl
theorem made_get (n k : Nat) (h : k < n * 64) : (madeCells (#[.int .u8 0, .int .u8 0, .int .u8 0, .int .u8 0, .int .u8 0, .int .u8 0, .int .u8 0, .int .u8 0, .int .u8 0, .int .u8 0, .int .u8 0, .int .u8 0, .int .u8 0, .int .u8 0, .int .u8 0, .int .u8 0, .int .u8 0, .int .u8 0, .int .u8 0, .int .u8 0, .int .u8 0, .int .u8 0, .int .u8 0, .int .u8 0, .int .u8 0, .int .u8 0, .int .u8 0, .int .u8 0, .int .u8 0, .int .u8 0, .int .u8 0, .int .u8 0, .int .u8 0, .int .u8 0, .int .u8 0, .int .u8 0, .int .u8 0, .int .u8 0, .int .u8 0, .int .u8 0, .int .u8 0, .int .u8 0, .int .u8 0, .int .u8 0, .int .u8 0, .int .u8 0, .int .u8 0, .int .u8 0, .int .u8 0, .int .u8 0, .int .u8 0, .int .u8 0, .int .u8 0, .int .u8 0, .int .u8 0, .int .u8 0, .int .u8 0, .int .u8 0, .int .u8 0, .int .u8 0, .int .u8 0, .int .u8 0, .int .u8 0, .int .u8 0] : Array Value) (n * 64))[k]? = some (.int .u8 0) := by
  have l : (#[.int .u8 0, .int .u8 0, .int .u8 0, .int .u8 0, .int .u8 0, .int .u8 0, .int .u8 0, .int .u8 0, .int .u8 0, .int .u8 0, .int .u8 0, .int .u8 0, .int .u8 0, .int .u8 0, .int .u8 0, .int .u8 0, .int .u8 0, .int .u8 0, .int .u8 0, .int .u8 0, .int .u8 0, .int .u8 0, .int .u8 0, .int .u8 0, .int .u8 0, .int .u8 0, .int .u8 0, .int .u8 0, .int .u8 0, .int .u8 0, .int .u8 0, .int .u8 0, .int .u8 0, .int .u8 0, .int .u8 0, .int .u8 0, .int .u8 0, .int .u8 0, .int .u8 0, .int .u8 0, .int .u8 0, .int .u8 0, .int .u8 0, .int .u8 0, .int .u8 0, .int .u8 0, .int .u8 0, .int .u8 0, .int .u8 0, .int .u8 0, .int .u8 0, .int .u8 0, .int .u8 0, .int .u8 0, .int .u8 0, .int .u8 0, .int .u8 0, .int .u8 0, .int .u8 0, .int .u8 0, .int .u8 0, .int .u8 0, .int .u8 0, .int .u8 0] : Array Value) = Array.replicate 64 (.int .u8 0) := rfl
  have e : ∀ j, j < 64 → (#[.int .u8 0, .int .u8 0, .int .u8 0, .int .u8 0, .int .u8 0, .int .u8 0, .int .u8 0, .int .u8 0, .int .u8 0, .int .u8 0, .int .u8 0, .int .u8 0, .int .u8 0, .int .u8 0, .int .u8 0, .int .u8 0, .int .u8 0, .int .u8 0, .int .u8 0, .int .u8 0, .int .u8 0, .int .u8 0, .int .u8 0, .int .u8 0, .int .u8 0, .int .u8 0, .int .u8 0, .int .u8 0, .int .u8 0, .int .u8 0, .int .u8 0, .int .u8 0, .int .u8 0, .int .u8 0, .int .u8 0, .int .u8 0, .int .u8 0, .int .u8 0, .int .u8 0, .int .u8 0, .int .u8 0, .int .u8 0, .int .u8 0, .int .u8 0, .int .u8 0, .int .u8 0, .int .u8 0, .int .u8 0, .int .u8 0, .int .u8 0, .int .u8 0, .int .u8 0, .int .u8 0, .int .u8 0, .int .u8 0, .int .u8 0, .int .u8 0, .int .u8 0, .int .u8 0, .int .u8 0, .int .u8 0, .int .u8 0, .int .u8 0, .int .u8 0] : Array Value)[j]! = .int .u8 0 := fun j hj => by
    rw [l, getElem!_pos (Array.replicate 64 (Value.int .u8 0)) j (by simpa using hj)]
    simp
  simp only [madeCells, Array.getElem?_map]
  rw [Array.getElem?_range]
  rw [if_pos h]
  exact congrArg some (e (k % 64) (Nat.mod_lt _ (by decide)))
theorem make_blocks (w : World) (n : Nat) (h : n ≤ 100000) : (Instr.makeSlice 64 (.int .i64 (n : Nat)) (.int .i64 (n : Nat))).run Tryd.prog w = .ok (.slice (some ⟨w.heap.size, 0, none⟩) n n) (w.alloc (.cells (madeCells #[.int .u8 0, .int .u8 0, .int .u8 0, .int .u8 0, .int .u8 0, .int .u8 0, .int .u8 0, .int .u8 0, .int .u8 0, .int .u8 0, .int .u8 0, .int .u8 0, .int .u8 0, .int .u8 0, .int .u8 0, .int .u8 0, .int .u8 0, .int .u8 0, .int .u8 0, .int .u8 0, .int .u8 0, .int .u8 0, .int .u8 0, .int .u8 0, .int .u8 0, .int .u8 0, .int .u8 0, .int .u8 0, .int .u8 0, .int .u8 0, .int .u8 0, .int .u8 0, .int .u8 0, .int .u8 0, .int .u8 0, .int .u8 0, .int .u8 0, .int .u8 0, .int .u8 0, .int .u8 0, .int .u8 0, .int .u8 0, .int .u8 0, .int .u8 0, .int .u8 0, .int .u8 0, .int .u8 0, .int .u8 0, .int .u8 0, .int .u8 0, .int .u8 0, .int .u8 0, .int .u8 0, .int .u8 0, .int .u8 0, .int .u8 0, .int .u8 0, .int .u8 0, .int .u8 0, .int .u8 0, .int .u8 0, .int .u8 0, .int .u8 0, .int .u8 0] (n * 64)) 114)) := by
  obtain ⟨i0, hi, hz0, hz1, hz2⟩ := info_parts blockInfo
  have hr := run_make (P := Tryd.prog) w 64 114 i0 _ Tryd.underlying64 hi hz0 .i64 .i64 n n (by omega) (Int.le_refl _) (by rw [hz2]; omega) (by omega)
  rw [hz1, Int.toNat_natCast] at hr
  exact hr

theorem fresh_dk (w : World) (n : Nat) (hn : 0 < n) (hm : n ≤ 100000) (M : Array Value) (hM : ∀ k, k < n * 64 → M[k]? = some (.int .u8 0)) : Dk ((w.alloc (.cells M 114)).alloc (.cells #[.slice (some ⟨w.heap.size, 0, none⟩) n n, .bool true, .int .i64 0, .int .i64 1, .int .i64 0, .bool false] 68)) (w.heap.size + 1) w.heap.size n fresh := by
  have bp : ((w.alloc (.cells M 114)).alloc (.cells #[.slice (some ⟨w.heap.size, 0, none⟩) n n, .bool true, .int .i64 0, .int .i64 1, .int .i64 0, .bool false] 68)).heap[w.heap.size + 1]? = some (.cells #[.slice (some ⟨w.heap.size, 0, none⟩) n n, .bool true, .int .i64 0, .int .i64 1, .int .i64 0, .bool false] 68) := by
    have e : (w.alloc (.cells M 114)).heap.size = w.heap.size + 1 := by simp
    rw [← e]; exact heap_alloc_last _ _
  have bq : ((w.alloc (.cells M 114)).alloc (.cells #[.slice (some ⟨w.heap.size, 0, none⟩) n n, .bool true, .int .i64 0, .int .i64 1, .int .i64 0, .bool false] 68)).heap[w.heap.size]? = some (.cells M 114) := by
    rw [Below.heap_alloc _ _ _ (by simp)]; exact heap_alloc_last _ _
  refine ⟨⟨n, by rw [cell_of_row _ _ _ _ _ _ bp]; rfl, Nat.le_refl _, by unfold maxLen; omega⟩, by rw [cell_of_row _ _ _ _ _ _ bp]; rfl, by rw [cell_of_row _ _ _ _ _ _ bp]; rfl, by rw [cell_of_row _ _ _ _ _ _ bp]; rfl, by rw [cell_of_row _ _ _ _ _ _ bp]; rfl, by rw [cell_of_row _ _ _ _ _ _ bp]; rfl, fun i hi j v hv => ?_, fun o => frozen_of_row _ _ _ _ _ bp, fun o => frozen_of_row _ _ _ _ _ bq, by omega, fresh_ok, hn⟩
  have hj : j < 64 := by have := (List.getElem?_eq_some_iff.1 hv).1; simp [fresh, zero64] at this; omega
  rw [cell_of_row _ _ _ _ _ _ bq, hM _ (by omega), ← hv]
  show _ = (List.map (Value.int .u8) (List.replicate 64 0))[j]?
  rw [List.getElem?_map, List.getElem?_replicate, if_pos hj]
  rfl

theorem New_no (n : Int) (w : World) (h : n < 1 ∨ 4096 < n) : Calls Tryd.prog 8 #[.int .i64 n] w fun e w' => e = .returned (.tuple #[.pointer none, .int .i64 1]) ∧ w = w' := by
  by_cases h1 : n < 1
  · clear h
    go_enter Tryd.func8, Tryd.ntmps8
    go_wp2
    go_ret2
    exact ⟨rfl, rfl⟩
  · have h2 : 4096 < n := by omega
    clear h
    go_enter Tryd.func8, Tryd.ntmps8
    go_wp2
    go_ret2
    exact ⟨rfl, rfl⟩
set_option maxHeartbeats 2000000 in
theorem New_yes (n : Nat) (w : World) (h1 : 1 ≤ n) (h2 : n ≤ 4096) : Calls Tryd.prog 8 #[.int .i64 (n : Nat)] w fun e w' => e = .returned (.tuple #[.pointer (some ⟨w.heap.size + 1, 0, none⟩), .int .i64 0]) ∧ Dk w' (w.heap.size + 1) w.heap.size n fresh ∧ Below w.heap.size w w' := by
  have mk := make_blocks w n (by omega)
  have D : Hid _ := fresh_dk w n (by omega) (by omega) _ (made_get n)
  generalize madeCells #[.int .u8 0, .int .u8 0, .int .u8 0, .int .u8 0, .int .u8 0, .int .u8 0, .int .u8 0, .int .u8 0, .int .u8 0, .int .u8 0, .int .u8 0, .int .u8 0, .int .u8 0, .int .u8 0, .int .u8 0, .int .u8 0, .int .u8 0, .int .u8 0, .int .u8 0, .int .u8 0, .int .u8 0, .int .u8 0, .int .u8 0, .int .u8 0, .int .u8 0, .int .u8 0, .int .u8 0, .int .u8 0, .int .u8 0, .int .u8 0, .int .u8 0, .int .u8 0, .int .u8 0, .int .u8 0, .int .u8 0, .int .u8 0, .int .u8 0, .int .u8 0, .int .u8 0, .int .u8 0, .int .u8 0, .int .u8 0, .int .u8 0, .int .u8 0, .int .u8 0, .int .u8 0, .int .u8 0, .int .u8 0, .int .u8 0, .int .u8 0, .int .u8 0, .int .u8 0, .int .u8 0, .int .u8 0, .int .u8 0, .int .u8 0, .int .u8 0, .int .u8 0, .int .u8 0, .int .u8 0, .int .u8 0, .int .u8 0, .int .u8 0, .int .u8 0] (n * 64) = M at *
  have h1' : ¬ (n : Int) < 1 := by omega
  have h2' : ¬ (4096 : Int) < (n : Int) := by omega
  clear h1 h2
  go_enter Tryd.func8, Tryd.ntmps8
  go_wp2
  go_ret2
  exact ⟨rfl, D.out, ((Below.refl _ _).alloc (Nat.le_refl _) _).alloc (by simp) _⟩

end Go.Proofs.YtblmfkdcahhhbaaDoor
