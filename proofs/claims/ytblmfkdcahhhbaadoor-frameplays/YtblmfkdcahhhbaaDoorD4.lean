/- The walks over package disk, on: put. -/
import Derived.Test.YtblmfkdcahhhbaaDoorD3
import Derived.Deep.RegionHeld3
import Derived.Laws.CopyOwn
import Derived.Deep.WholeRow
namespace Go.Proofs.YtblmfkdcahhhbaaDoor
open Go.RowKit
set_option linter.unusedVariables false
set_option linter.unusedSimpArgs false

def vals (b : List Int) : List Value := b.map (Value.int .u8)
theorem vals_len (b : List Int) : (vals b).length = b.length := by simp [vals]
theorem vals_one (b : List Int) : ∀ v ∈ vals b, v.oneCell' = true := bytes_one b
theorem blockSize : (Tryd.prog.info? 114).map (·.size) = some 64 := by kernel_rfl
theorem byteSize : (Tryd.prog.info? 5).map (·.size) = some 1 := by kernel_rfl
theorem goInt_is (n : Nat) (h : n ≤ 1000) : goInt n = .int .i64 (n : Nat) := by
  unfold goInt
  first | rfl | (congr 1; rw [IntKind.wrap_i64]; omega)

theorem drop_zeros (m : Nat) : (vals zero64).toArray.toList.drop m = vals (List.replicate (64 - m) 0) := by
  show (List.map (Value.int .u8) (List.replicate 64 0)).drop m = _
  rw [← List.map_drop, List.drop_replicate]
  rfl
/-- Bytes laid over 64 noughts in the newest block. -/
theorem copy_new (w : World) (t ty : TypeId) (a : Option Addr) (m c : Nat) (b : List Int) (hy : By w a m c b) (hm : m ≤ 64) :
    (Builtin.copy_ #[32, 32] ty #[.slice (some ⟨w.heap.size, 0, none⟩) 64 64, .slice a m c]).run Tryd.prog (w.alloc (.cells (vals zero64).toArray t)) = .ok (.int .i64 (m : Nat)) (w.alloc (.cells (vals (pad b)).toArray t)) := by
  have hl := hy.len
  rcases Nat.eq_zero_or_pos m with rfl | mp
  · obtain rfl : b = [] := List.length_eq_zero_iff.1 hl
    rw [run_copy_none (P := Tryd.prog) _ 32 32 ty 5 _ _ 64 64 0 c Tryd.underlying32 byteSize rfl]
    exact congrArg (fun v => Result.ok v (w.alloc (.cells (vals zero64).toArray t))) (goInt_is 0 (by decide))
  · obtain ⟨bb, o, h1, h2⟩ := hy.cell
    have e := h1 mp
    subst e
    have hlt : bb < w.heap.size := World.block_lt_of_cell? _ _ (h2 0 mp)
    have hz : (vals zero64).length = 64 := by rw [vals_len]; rfl
    rw [run_copy_row Tryd.prog _ 32 32 ty 5 w.heap.size 0 64 64 ⟨bb, o, none⟩ m c (vals zero64).toArray t (vals b) Tryd.underlying32 byteSize (heap_alloc_last w _) (by rw [vals_len, hl]; show m = min m 64; omega) ?_ (by rw [vals_len, List.size_toArray, hz]; omega) (vals_one b)]
    · rw [World.setRow_alloc_new, vals_len, hl, goInt_is m (by omega)]
      have e1 : (vals zero64).toArray.toList.take 0 ++ vals b ++ (vals zero64).toArray.toList.drop (0 + m) = vals (pad b) := by
        rw [List.take_zero, List.nil_append, Nat.zero_add, drop_zeros, ← hl]
        simp [vals, pad]
      rw [e1]
    · intro j v hv
      have hj : j < m := by
        have := (List.getElem?_eq_some_iff.1 hv).1
        rw [vals_len] at this; omega
      have hp : (⟨bb, o, none⟩ : Addr).add j = ⟨bb, o + j, none⟩ := Addr.add_mid bb o j
      rw [hp, World.cell?_alloc_lt _ _ _ hlt, h2 j hj, ← hv]
      simp [vals, List.getD, List.getElem?_eq_getElem (show j < b.length by omega)]

theorem cell_setCells_far {w : World} {p q o o' : Nat} (vs : List Value) (h : p ≠ q) : (w.setCells q o vs).cell? ⟨p, o', none⟩ = w.cell? ⟨p, o', none⟩ :=
  World.cell?_setCells_out q vs o w ⟨p, o', none⟩ (fun e _ => absurd e h)

/-- The disk behind a sector's store. -/
theorem Dk.stored {w w1 : World} {p q n i : Nat} {s : St} {b : List Int} (h : Dk w p q n s) (hg : w1.heap[p]? = w.heap[p]? ∧ w1.heap[q]? = w.heap[q]?) (hi : i < n) (hb : b.length ≤ 64) (hy : Bys b) : Dk (w1.setCells q (i * 64) (vals (pad b))) p q n (s.put i b) := by
  have h1 : Dk w1 p q n s := h.kept hg.1 hg.2
  have hpl : (vals (pad b)).length = 64 := by rw [vals_len, pad_len hb]
  have hs : ∀ k, k < n → w1.there q (k * 64) 64 := fun k hk j hj => ⟨by rw [h1.cell hk hj]; rfl, h1.fq _⟩
  refine ⟨by simpa only [cell_setCells_far _ h.ne] using h1.c0, by rw [cell_setCells_far _ h.ne]; exact h1.c1, by rw [cell_setCells_far _ h.ne]; exact h1.c2, by rw [cell_setCells_far _ h.ne]; exact h1.c3, by rw [cell_setCells_far _ h.ne]; exact h1.c4, by rw [cell_setCells_far _ h.ne]; exact h1.c5, fun k hk => ?_, fun o => ?_, fun o => ?_, h.ne, h.ok.put i hb hy, h.pos⟩
  · show (w1.setCells q (i * 64) (vals (pad b))).rangeAt q (k * 64) ((upd s.sec i (pad b) k).map (Value.int .u8))
    unfold upd
    split
    · rename_i e
      subst e
      exact World.rangeAt_setCells_same _ _ _ _ (by rw [hpl]; exact hs k hk)
    · rename_i e
      have := h.ok.len k
      refine World.rangeAt_setCells_apart (h1.row k hk) _ _ _ (Or.inr ?_)
      rw [hpl]; simp [this]; omega
  · rw [World.frozen?_setCells]; exact h1.fp o
  · rw [World.frozen?_setCells]; exact h1.fq o

set_option maxRecDepth 100000 in
set_option maxHeartbeats 2000000 in
theorem put_any (p q n : Nat) (s : St) (i : Nat) (a : Option Addr) (m c : Nat) (b : List Int) (w : World) (h : Dk w p q n s) (hi : i < n) (hy : By w a m c b) (hm : m ≤ 64) :
    Calls Tryd.prog 48 #[.pointer (some ⟨p, 0, none⟩), .int .i64 (i : Nat), .slice a m c] w fun e w' => e = .returned (.tuple #[]) ∧ Dk w' p q n (s.put i b) ∧ Gr p q w w' := by
  have hlen := hy.len
  have hcp : (Builtin.copy_ #[32, 32] 3 #[.slice (some ⟨w.heap.size, 0, none⟩) 64 64, .slice a m c]).run Tryd.prog (w.alloc (.cells #[.int .u8 0, .int .u8 0, .int .u8 0, .int .u8 0, .int .u8 0, .int .u8 0, .int .u8 0, .int .u8 0, .int .u8 0, .int .u8 0, .int .u8 0, .int .u8 0, .int .u8 0, .int .u8 0, .int .u8 0, .int .u8 0, .int .u8 0, .int .u8 0, .int .u8 0, .int .u8 0, .int .u8 0, .int .u8 0, .int .u8 0, .int .u8 0, .int .u8 0, .int .u8 0, .int .u8 0, .int .u8 0, .int .u8 0, .int .u8 0, .int .u8 0, .int .u8 0, .int .u8 0, .int .u8 0, .int .u8 0, .int .u8 0, .int .u8 0, .int .u8 0, .int .u8 0, .int .u8 0, .int .u8 0, .int .u8 0, .int .u8 0, .int .u8 0, .int .u8 0, .int .u8 0, .int .u8 0, .int .u8 0, .int .u8 0, .int .u8 0, .int .u8 0, .int .u8 0, .int .u8 0, .int .u8 0, .int .u8 0, .int .u8 0, .int .u8 0, .int .u8 0, .int .u8 0, .int .u8 0, .int .u8 0, .int .u8 0, .int .u8 0, .int .u8 0] 114)) = .ok (.int .i64 (m : Nat)) (w.alloc (.cells (vals (pad b)).toArray 114)) := copy_new w 114 3 a m c b hy hm
  obtain ⟨cap, c0, hc1, hc2⟩ := h.c0
  have hpq := h.ne
  have hC : (vals (pad b)).length = 64 := by rw [vals_len, pad_len (by omega)]
  have DS : Hid (Dk ((w.alloc (.cells (vals (pad b)).toArray 114)).drew.setCells q (i * 64) (vals (pad b))) p q n (s.put i b)) := h.stored ⟨Below.heap_alloc _ _ _ h.ltp, Below.heap_alloc _ _ _ h.ltq⟩ hi (by omega) hy.ok
  have GS : Hid (Gr p q w ((w.alloc (.cells (vals (pad b)).toArray 114)).drew.setCells q (i * 64) (vals (pad b)))) := (Gr.alloc p q w _).drew.trans (Gr.setCells p _ _ _)
  have hin : (i : Int) < (n : Int) := by omega
  have hi0 : (0 : Int) ≤ (i : Int) := by omega
  have hth : ∀ W : World, W.heap[q]? = w.heap[q]? → W.there q (i * 64) 64 := fun W hW j hj =>
    ⟨by rw [World.cell?_of_block (w := w) (a := ⟨q, i * 64 + j, none⟩) hW, h.cell hi hj]; rfl, by rw [World.frozen?_of_block (w := w) (a := ⟨q, i * 64 + j, none⟩) hW]; exact h.fq _⟩
  have h1 : ∀ v ∈ vals (pad b), v.oneCell' = true := vals_one _
  have hps : p < w.heap.size := h.ltp
  have hqs : q < w.heap.size := h.ltq
  generalize vals (pad b) = C at *
  have S1 : (w.alloc (.cells C.toArray 114)).cell? ⟨p, 0, none⟩ = some (.slice (some ⟨q, 0, none⟩) n cap) := by rw [World.cell?_alloc_lt _ _ _ hps]; exact c0
  have S2 : (w.alloc (.cells C.toArray 114)).rangeAt w.heap.size 0 C := fun j v hv => by
    rw [cell_of_row _ _ (0 + j) _ _ _ (heap_alloc_last w _)]; simpa using hv
  have S3 : (w.alloc (.cells C.toArray 114)).there q (i * 64) 64 := hth _ (Below.heap_alloc _ _ _ hqs)
  have hu := Tryd.underlying114
  have hinf : (Tryd.prog.info? 114).map (·.size) = some C.length := by rw [blockSize, hC]
  have hne : w.heap.size ≠ q := by omega
  clear hth hy h c0
  go_enter Tryd.func48, Tryd.ntmps48
  go_wp2
  go_region_held3 (fun w' => w'.cell? ⟨p, 0, none⟩ = some (.slice (some ⟨q, 0, none⟩) n cap) ∧ w'.rangeAt w.heap.size 0 C ∧ w'.there q (i * 64) 64) ((go_split_ands; refine ⟨?_, ?_, ?_⟩ <;> first | assumption | (rw [cell_setCells_far _ hpq]; assumption) | (exact World.rangeAt_setCells_apart (by assumption) _ _ _ (Or.inl hne)) | (exact World.there_setCells (by assumption) _ _ _) | (simpa using (by assumption)))) (fail)
  go_wp2
  go_returns
  exact ⟨rfl, DS.out, GS.out⟩

end Go.Proofs.YtblmfkdcahhhbaaDoor
