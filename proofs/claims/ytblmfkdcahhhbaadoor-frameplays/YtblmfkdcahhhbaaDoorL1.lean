/- The reference's numbers by their lowest bytes; how many sectors a payload wants. -/
import Derived.Test.YtblmfkdcahhhbaaDoorK4
import Derived.Test.YtblmfkdcahhhbaaDoorG2
import Derived.Test.YtblmfkdcahhhbaaDoorSm
import Derived.Lib.ConvBytes
namespace Go.Proofs.YtblmfkdcahhhbaaDoor
open Go.RowKit
set_option linter.unusedVariables false
set_option linter.unusedSimpArgs false

set_option maxHeartbeats 1000000 in
theorem kSize_any (n : Nat) (w : World) (h : n ≤ 1000) : Calls Tryd.prog 41 #[.int .i64 (n : Nat)] w fun e w' => e = .returned (.int .i64 (fsize n : Nat)) ∧ w = w' := by
  have h0 : ¬ (n : Int) < 0 := by omega
  have h1 : ¬ (1000 : Int) < (n : Int) := by omega
  have h2 : (n : Int) ≤ 1000 := by omega
  by_cases q : n ≤ 44
  · have q' : (n : Int) ≤ 44 := by omega
    have E : Hid (fsize n = 1) := by show _ = _; unfold fsize; omega
    go_enter Tryd.func41, Tryd.ntmps41
    go_wp2
    go_ret
    exact ⟨by rw [E.out]; rfl, rfl⟩
  · have q' : ¬ (n : Int) ≤ 44 := by omega
    have E : Hid (1 + ((n : Int) - 44 + 62) / 63 = ((fsize n : Nat) : Int)) := by
      show _ = _
      unfold fsize; omega
    go_enter Tryd.func41, Tryd.ntmps41
    go_wp2
    go_ret
    exact ⟨by rw [← E.out]; rfl, rfl⟩
theorem kSize_no (n : Int) (w : World) (h : n < 0 ∨ 1000 < n) : Calls Tryd.prog 41 #[.int .i64 n] w fun e w' => e = .returned (.int .i64 0) ∧ w = w' := by
  by_cases h0 : n < 0
  · clear h
    go_enter Tryd.func41, Tryd.ntmps41
    go_wp2
    go_ret
    exact ⟨rfl, rfl⟩
  · have h1 : 1000 < n := by omega
    clear h
    go_enter Tryd.func41, Tryd.ntmps41
    go_wp2
    go_ret
    exact ⟨rfl, rfl⟩
theorem str_size (l : List Int) : (strOfNums l).size = l.length := by simp [strOfNums, ByteArray.size]
theorem str_at {l : List Int} (hb : Bys l) {i : Nat} (h : i < (strOfNums l).size) : (((strOfNums l)[i]).toNat : Int) = l.getD i 0 := by
  have h' : i < l.length := by rw [str_size] at h; exact h
  have e : (strOfNums l)[i] = UInt8.ofNat (l[i]).toNat := by
    show (strOfNums l).data[i] = _
    simp [strOfNums]
  have hx := hb.getD i
  rw [List.getD_eq_getElem?_getD, List.getElem?_eq_getElem h', Option.getD_some] at hx ⊢
  rw [e]
  simp [UInt8.toNat_ofNat]
  omega
theorem sum_lt32 (l : List Int) : sum l < 4294967296 := by unfold sum; omega
theorem upB_from {l : List Int} {k : Nat} (h : k < l.length) : upB (l.drop k) = (l.getD k 0).toNat + 256 * upB (l.drop (k + 1)) := by
  rw [List.drop_eq_getElem_cons h, upB, List.getD_eq_getElem?_getD, List.getElem?_eq_getElem h]; rfl
theorem drop_ok {l : List Int} (h : Bys l) (hl : l.length ≤ 8) {k : Nat} (hk : 0 < k) (hk2 : k ≤ l.length) : upB (l.drop k) * 256 < 18446744073709551616 := by
  have := upB_lt (l.drop k) (h.drop k)
  have e : (l.drop k).length ≤ 7 := by rw [List.length_drop]; omega
  have := Nat.pow_le_pow_right (n := 256) (by decide) e
  omega
set_option maxHeartbeats 1000000 in
theorem kup_any (l : List Int) (w : World) (hb : Bys l) (hl : l.length ≤ 8) : Calls Tryd.prog 60 #[.string (strOfNums l)] w fun e w' => e = .returned (.int .u64 (upB l : Nat)) ∧ w = w' := by
  have hs := str_size l
  have AT : Hid (∀ i (h : i < (strOfNums l).size), (((strOfNums l)[i]).toNat : Int) = l.getD i 0) := fun i h => str_at hb h
  generalize strOfNums l = x at *
  have n8 : (x.size : Int) ≤ 8 := by omega
  go_enter Tryd.func60, Tryd.ntmps60
  go_wp2_with fail
  go_loopg [3, 4] l.length (fun g vv iv wr => g ≤ l.length ∧ vv = .int .u64 (upB (l.drop g) : Nat) ∧ iv = .int .i64 ((g : Int) - 1) ∧ wr = w)
  case atStart => exact ⟨Nat.le_refl _, by simp [upB], rfl, rfl⟩
  case round =>
    obtain ⟨hk, rfl, rfl, rfl⟩ := hrel
    by_cases q : 0 < gk
    · have q' : (0 : Int) ≤ (gk : Int) - 1 := by omega
      have q2 : (gk : Int) - 1 < (x.size : Int) := by omega
      go_wp2_with fail
      have e0 := AT.out (gk - 1) (by omega)
      have e1 := hb.getD (gk - 1)
      have e2 : upB (l.drop (gk - 1)) = (l.getD (gk - 1) 0).toNat + 256 * upB (l.drop gk) := by
        have := upB_from (l := l) (k := gk - 1) (by omega)
        rw [show gk - 1 + 1 = gk by omega] at this
        exact this
      have e3 := drop_ok hb hl q hk
      rw [or_byte _ _ (by omega)]
      have e4 : upB (l.drop gk) * 256 % 18446744073709551616 + x[gk - 1].toNat = upB (l.drop (gk - 1)) := by rw [e2]; omega
      rw [e4]
      go_roundg (gk - 1)
      case measure => omega
      case rel => exact ⟨by omega, rfl, by congr 1; omega, rfl⟩
    · obtain rfl : gk = 0 := by omega
      go_wp2
      go_ret
      exact ⟨rfl, rfl⟩

theorem By.setAt {w : World} {b n cap : Nat} {bs : List Int} (h : By w (some ⟨b, 0, none⟩) n cap bs) {i : Nat} (hi : i < n) {x : Int} (hx : 0 ≤ x ∧ x < 256) : By (w.setCell ⟨b, i, none⟩ (.int .u8 x)) (some ⟨b, 0, none⟩) n cap (bs.set i x) := by
  obtain ⟨b', o', h1, h2⟩ := h.cell
  have e := h1 (by omega)
  simp at e
  obtain ⟨rfl, rfl⟩ := e
  have hl := h.len
  refine ⟨by simpa using hl, h.fits, h.max, fun e => by simp at e, ⟨b, 0, fun _ => rfl, fun j hj => ?_⟩, fun z hz => ?_⟩
  · rw [Nat.zero_add]
    by_cases c : j = i
    · subst c
      rw [World.cell?_setCell_same _ _ _ (by have := h2 j hj; rw [Nat.zero_add] at this; exact this)]
      simp [List.getD, hl, hi]
    · rw [cell_set_ne _ (fun e => c e.symm)]
      have := h2 j hj
      rw [Nat.zero_add] at this
      rw [this]
      have c' : i ≠ j := fun e => c e.symm
      simp [List.getD, List.getElem?_set, c']
  · rcases List.mem_or_eq_of_mem_set hz with q | q
    · exact h.ok z q
    · subst q; exact hx
theorem low_shift (v k : Nat) : (v : Int) / 2 ^ (8 * k) % 256 = ((v / 256 ^ k % 256 : Nat) : Int) := by
  have e : (2 : Int) ^ (8 * k) = ((256 ^ k : Nat) : Int) := by
    rw [Int.pow_mul, Int.natCast_pow]
    rfl
  rw [e, ← Int.natCast_ediv]
  omega
theorem low_set (k n v : Nat) (q : k < n) : (lowB k v ++ List.replicate (n - k) 0).set k ((v / 256 ^ k % 256 : Nat) : Int) = lowB (k + 1) v ++ List.replicate (n - (k + 1)) 0 := by
  rw [List.set_append_right _ _ (by rw [lowB_len]; exact Nat.le_refl _), lowB_len, Nat.sub_self, lowB_snoc, List.append_assoc]
  congr 1
  rw [show n - k = (n - (k + 1)) + 1 by omega, List.replicate_succ]
  rfl
set_option maxHeartbeats 2000000 in
theorem klow_any (v n : Nat) (w : World) (hv : v < 18446744073709551616) (hn : n ≤ 8) : Calls Tryd.prog 43 #[.int .u64 (v : Nat), .int .i64 (n : Nat)] w fun e w' => e = .returned (.string (strOfNums (lowB n v))) ∧ Below w.heap.size w w' := by
  have mk := make_z w n (by omega)
  have n8 : (n : Int) ≤ 8 := by omega
  have Y0 : Hid (By (w.alloc (.cells (vals (List.replicate n 0)).toArray 5)) (some ⟨w.heap.size, 0, none⟩) n n (List.replicate n 0)) := by
    have y := by_const w (List.replicate n 0) (fun x hx => by have := List.eq_of_mem_replicate hx; omega) (by simp; omega) (0, 0) 5
    rw [List.length_replicate] at y
    exact y
  have B0 : Hid (Below w.heap.size w (w.alloc (.cells (vals (List.replicate n 0)).toArray 5))) := allocB _ _
  have F0 : Hid (∀ o, (w.alloc (.cells (vals (List.replicate n 0)).toArray 5)).frozen? ⟨w.heap.size, o, none⟩ = false) := fun o => frozen_of_row _ _ _ _ _ (heap_alloc_last w _)
  generalize vals (List.replicate n 0) = Z at *
  go_enter Tryd.func43, Tryd.ntmps43
  go_wp2_with fail
  go_loopg [6] n (fun g iv wr => ∃ k : Nat, k ≤ n ∧ g = n - k ∧ iv = .int .i64 (k : Nat) ∧ Hid (By wr (some ⟨w.heap.size, 0, none⟩) n n (lowB k v ++ List.replicate (n - k) 0)) ∧ Hid (∀ o, wr.frozen? ⟨w.heap.size, o, none⟩ = false) ∧ Hid (Below w.heap.size w wr))
  case atStart => exact ⟨0, Nat.zero_le _, rfl, rfl, Y0.out, F0.out, B0.out⟩
  case round =>
    obtain ⟨k, hk, rfl, rfl, Y, F, B⟩ := hrel
    clear Y0 B0 F0 mk
    by_cases q : k < n
    · have q' : (k : Int) < (n : Int) := by omega
      obtain ⟨b', o', h1, h2⟩ := Y.out.cell
      have e := h1 (by omega)
      simp at e
      obtain ⟨rfl, rfl⟩ := e
      have c0 := h2 k q
      rw [Nat.zero_add] at c0
      have f0 := F.out k
      clear h1 h2
      generalize (lowB k v ++ List.replicate (n - k) 0).getD k 0 = z at *
      go_wp2_with fail
      have ev := low_shift v k
      rw [ev]
      go_roundg (n - (k + 1))
      case measure => omega
      case rel =>
        refine ⟨k + 1, q, rfl, by congr 1, ?_, fun o => by simpa using F.out o, B.out.setCell (Nat.le_refl _) _⟩
        have y := Y.out.setAt q (x := ((v / 256 ^ k % 256 : Nat) : Int)) (by omega)
        have e := low_set k n v q
        rw [e] at y
        exact y
    · obtain rfl : k = n := by omega
      have y := Y.out
      rw [Nat.sub_self, List.replicate_zero, List.append_nil] at y
      have st := y.str
      clear y Y
      go_wp2
      go_ret
      exact ⟨rfl, B.out⟩
theorem str_toList {l : List Int} (j : Nat) (hb : Bys l) (h : j < l.length) : (((strOfNums l).data.toList.getD j 0).toNat : Int) = l.getD j 0 := by
  have hx := hb.getD j
  rw [List.getD_eq_getElem?_getD, List.getD_eq_getElem?_getD] at *
  simp [strOfNums, List.getElem?_eq_getElem h] at hx ⊢
  omega
/-- A text's bytes, anew. -/
theorem conv_bytes (l : List Int) (w : World) (hb : Bys l) (hl : l.length ≤ 100000) : ∃ cap w', (convert 9 32 (.string (strOfNums l))).run Tryd.prog w = .ok (.slice (some ⟨w.heap.size, 0, none⟩) l.length cap) w' ∧ By w' (some ⟨w.heap.size, 0, none⟩) l.length cap l ∧ Below w.heap.size w w' := by
  have h := Lib.run_convert_string_bytes w 9 32 5 (strOfNums l) Tryd.underlying9 Tryd.underlying32 Tryd.underlying5
  rw [str_size] at h
  refine ⟨_, _, h, ⟨rfl, grownCap_ge _ _ _ _, grownCap_le_maxLen _ _ _ _ (by unfold maxLen; omega), fun e => by simp at e, ⟨w.heap.size, 0, fun _ => rfl, fun i hi => ?_⟩, hb⟩, ⟨rfl, rfl, rfl, by rw [Lib.bytesWorld_size]; omega, fun k hk => Lib.bytesWorld_at_old _ _ _ _ hk⟩⟩
  rw [Nat.zero_add, Lib.bytesWorld_cell _ _ _ _ (by rw [str_size]; exact hi), str_toList i hb hi]
set_option maxRecDepth 100000 in
set_option maxHeartbeats 2000000 in
theorem ksum_any (h b : List Int) (w : World) (hh : Bys h) (hb : Bys b) (hl : h.length + b.length ≤ 100000) : Calls Tryd.prog 44 #[.string (strOfNums h), .string (strOfNums b)] w fun e w' => e = .returned (.string (strOfNums (lowB 4 (sum (h ++ b))))) ∧ Below w.heap.size w w' := by
  obtain ⟨cap, w1, cv, y1, b1⟩ := conv_bytes (h ++ b) w (hh.app hb) (by simpa using hl)
  rw [← str_app] at cv
  have B1 : Hid _ := b1
  have RS : Hid _ := rSum_any _ _ _ _ w1 y1 (by simpa using hl)
  have sl := sum_lt32 (h ++ b)
  generalize sum (h ++ b) = S at *
  have sl' : (S : Int) < 4294967296 := by omega
  have sx : ¬ 9223372036854775807 < (strOfNums h).size + (strOfNums b).size := by rw [str_size, str_size]; omega
  clear y1 b1 hl
  generalize strOfNums h = x at *
  generalize strOfNums b = z at *
  generalize (h ++ b).length = n at *
  have KL : Hid _ := fun W => klow_any S 4 W (by omega) (by decide)
  go_enter Tryd.func44, Tryd.ntmps44
  go_wp2_with fail
  refine Calls.mono RS.out ?_
  rintro e w' ⟨rfl, rfl⟩
  go_wp2_with fail
  refine Calls.mono (KL.out _) ?_
  rintro e w2 ⟨rfl, b2⟩
  go_wp2
  go_ret
  exact ⟨rfl, nextB B1.out b2⟩

end Go.Proofs.YtblmfkdcahhhbaaDoor
