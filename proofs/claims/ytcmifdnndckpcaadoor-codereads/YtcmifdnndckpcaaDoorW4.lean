/- The walk over package pack's sum of bytes. -/
import Derived.Test.YtcmifdnndckpcaaDoorW3
import Derived.Test.YtcmifdnndckpcaaDoorCrc
import Derived.Laws.BitsAllLaws
namespace Go.Proofs.YtcmifdnndckpcaaDoor
open Go.RowKit
set_option linter.unusedVariables false
set_option linter.unusedSimpArgs false

/-- The table lies in its place. -/
def Tab (w : World) : Prop := 1 < w.heap.size ∧ ∀ i, i < 16 → w.cell? ⟨1, i, none⟩ = some (.int .u32 (tab i : Nat))
theorem Tab.below {w w' : World} {B : Nat} (h : Tab w) (hb : Below B w w') (hB : 1 < B) : Tab w' :=
  ⟨Nat.lt_of_lt_of_le h.1 hb.size, fun i hi => by rw [hb.cell (p := ⟨1, i, none⟩) hB]; exact h.2 i hi⟩
theorem Tab.next {w w' : World} (h : Tab w) (hb : Below w.heap.size w w') : Tab w' := h.below hb h.1

set_option maxHeartbeats 2000000 in
theorem pSum_any (a : Option Addr) (n cap : Nat) (bs : List Int) (w : World) (h : By w a n cap bs) (hn : n ≤ 20000000) (ht : Tab w) :
    Calls Tryd.prog 66 #[.slice a n cap] w fun e w' => e = .returned (.int .u32 (sum bs : Nat)) ∧ w = w' := by
  obtain ⟨b, o, h1, h2⟩ := h.cell
  have H1 : Hid _ := h1
  have H2 : Hid _ := h2
  have HB : Hid (Bys bs) := h.ok
  have HL : Hid _ := h.len
  have HT : Hid _ := ht
  clear h1 h2 h ht
  go_enter Tryd.func66, Tryd.ntmps66
  go_wp2_with fail
  go_loopg [3, 8] n (fun g sv iv wr => ∃ (k c : Nat), k ≤ n ∧ g = n - k ∧ sv = .int .u32 c ∧ iv = .int .i64 k ∧ wr = w ∧ c < 4294967296 ∧ Hid (c = crcL 4294967295 (bs.take k)))
  case atStart => exact ⟨0, 4294967295, Nat.zero_le _, rfl, rfl, rfl, rfl, by decide, rfl⟩
  case round =>
    obtain ⟨k, c, hk, rfl, rfl, rfl, rfl, hc, hC⟩ := hrel
    by_cases q : k < n
    · have q' : (k : Int) < (n : Int) := by omega
      obtain rfl := H1.out (by omega)
      have e1 := H2.out k q
      have hx := HB.out.getD k
      obtain ⟨x, hx'⟩ : ∃ x : Nat, (x : Int) = bs.getD k 0 := ⟨(bs.getD k 0).toNat, by omega⟩
      rw [← hx'] at e1 hx
      have X : Hid _ := hx'
      clear hx'
      have r1 := u32_xor_nat c x hc (by omega)
      obtain ⟨c1, hc1⟩ : ∃ c1 : Nat, c1 = c ^^^ x := ⟨_, rfl⟩
      have l1 : c1 < 4294967296 := by rw [hc1]; exact xor_lt32 hc (by omega)
      rw [← hc1] at r1
      obtain ⟨d1, hd1⟩ : ∃ d1 : Nat, d1 = c1 / 16 := ⟨_, rfl⟩
      obtain ⟨m1, hm1⟩ : ∃ m1 : Nat, m1 = c1 % 16 := ⟨_, rfl⟩
      have s1 : (c1 : Int) / 16 = (d1 : Int) := by omega
      have s2 : (c1 : Int) % 16 = (m1 : Int) := by omega
      have t1 := HT.out.2 m1 (by omega)
      have lt1 := tab_lt ⟨m1, by omega⟩
      have r2 := u32_xor_nat d1 (tab m1) (by omega) lt1
      obtain ⟨c2, hc2⟩ : ∃ c2 : Nat, c2 = nib c1 := ⟨_, rfl⟩
      have l2 : c2 < 4294967296 := by rw [hc2]; exact nib_lt l1
      have n1 : d1 ^^^ tab m1 = c2 := by rw [hd1, hm1, hc2]; rfl
      rw [n1] at r2
      obtain ⟨d2, hd2⟩ : ∃ d2 : Nat, d2 = c2 / 16 := ⟨_, rfl⟩
      obtain ⟨m2, hm2⟩ : ∃ m2 : Nat, m2 = c2 % 16 := ⟨_, rfl⟩
      have s3 : (c2 : Int) / 16 = (d2 : Int) := by omega
      have s4 : (c2 : Int) % 16 = (m2 : Int) := by omega
      have t2 := HT.out.2 m2 (by omega)
      have lt2 := tab_lt ⟨m2, by omega⟩
      have r3 := u32_xor_nat d2 (tab m2) (by omega) lt2
      obtain ⟨c3, hc3⟩ : ∃ c3 : Nat, c3 = nib c2 := ⟨_, rfl⟩
      have l3 : c3 < 4294967296 := by rw [hc3]; exact nib_lt l2
      have n2 : d2 ^^^ tab m2 = c3 := by rw [hd2, hm2, hc3]; rfl
      rw [n2] at r3
      have m16 : m1 < 16 := by omega
      have m16' : m2 < 16 := by omega
      have C3 : Hid (c3 = crcL 4294967295 (bs.take (k + 1))) := by
        show c3 = _
        have ek : k < bs.length := by rw [HL.out]; exact q
        rw [List.take_succ_eq_append_getElem ek, crcL_snoc, ← hC.out, hc3, hc2, hc1]
        have : (bs[k]).toNat = x := by
          have e : bs.getD k 0 = bs[k] := by simp [List.getD, ek]
          rw [← e, ← X.out]; rfl
        rw [this]; rfl
      clear hc1 hd1 hm1 hc2 hd2 hm2 hc3 n1 n2 lt1 lt2
      generalize tab m1 = y1 at *
      generalize tab m2 = y2 at *
      go_wp2
      go_roundg (n - (k + 1))
      case measure => omega
      case rel => exact ⟨k + 1, c3, by omega, rfl, rfl, by go_num, rfl, l3, C3⟩
    · obtain rfl : k = n := by omega
      have e : c = crcL 4294967295 bs := by
        have := hC.out
        rw [List.take_of_length_le (by rw [HL.out]; exact Nat.le_refl _)] at this
        exact this
      have r := not32 c hc
      obtain ⟨s, hs⟩ : ∃ s : Nat, s = sum bs := ⟨_, rfl⟩
      have es : 4294967295 - (c : Int) = (s : Int) := by rw [hs]; unfold sum; rw [← e]; omega
      rw [es] at r
      have S : Hid _ := hs
      clear e hs es
      go_wp2
      go_ret
      exact ⟨by rw [S.out]; rfl, rfl⟩

end Go.Proofs.YtcmifdnndckpcaaDoor
