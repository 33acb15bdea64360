/- The walks over publicanref14's Encode. -/
import Derived.Test.YtcmifdnndckpcaaDoorCf
import Derived.Test.YtcmifdnndckpcaaDoorR1
import Derived.Test.YtcmifdnndckpcaaDoorR2
namespace Go.Proofs.YtcmifdnndckpcaaDoor
open Go.RowKit
set_option linter.unusedVariables false
set_option linter.unusedSimpArgs false

theorem Own.flat {w : World} {B : Nat} {v : Value} {bs : List Int} (h : Own w B v bs) : ∃ a n c, v = .slice a n c ∧ By w a n c bs := by
  obtain ⟨a, c, e, y, -, -⟩ := h.by
  exact ⟨a, _, c, e, y⟩
/-- What a writer of the reference's leaves: all that was stays. -/
structure Ri (w1 wr : World) (v : Value) (bs : List Int) : Prop where
  own : Own wr w1.heap.size v bs
  bl : Below w1.heap.size w1 wr
theorem Ri.cast {w1 wr : World} {v : Value} {bs bs' : List Int} (h : Ri w1 wr v bs) (e : bs = bs') : Ri w1 wr v bs' := e ▸ h
theorem Ri.on {w1 wr w2 : World} {v v2 : Value} {bs bs2 : List Int} (h : Ri w1 wr v bs) (o : Own w2 wr.heap.size v2 bs2) (b : Below wr.heap.size wr w2) : Ri w1 w2 v2 bs2 :=
  ⟨o.mono h.bl.size, h.bl.trans (b.mono h.bl.size)⟩
set_option maxRecDepth 100000 in
set_option maxHeartbeats 16000000 in
theorem ref14_many_any (a : Option Addr) (n cap k : Nat) (bs : List Int) (w : World) (h : By w a n cap bs) (hn : n ≤ 20000000) (hk : k ≤ 9000000) :
    Calls Tryd.prog 35 #[.slice a n cap, .int .i64 (k : Nat)] w fun e w' => New w w' e (bs ++ enc k) := by
  have K := hid (rPutU_any a n cap k bs w h hn (by omega))
  clear h hn
  go_enter Tryd.func35, Tryd.ntmps35
  go_wp2_with (go_at_call 67; (with_reducible refine Calls.mono K.out ?_); rintro e w1 ⟨⟨v1, rfl, o1⟩, b1⟩)
  go_ret
  exact ⟨⟨v1, rfl, o1⟩, b1⟩
set_option maxRecDepth 100000 in
set_option maxHeartbeats 16000000 in
theorem ref14_ints_any (a : Option Addr) (n cap : Nat) (bs : List Int) (w : World) (h : By w a n cap bs) (b : Option Addr) (m c : Nat) (xs : List Int) (hV : Vw aI 1 w b m xs) (hl : bs.length + ((cL false cI).en xs).length ≤ 9000000) :
    Calls Tryd.prog 37 #[.slice a n cap, .slice b m c] w fun e w' => New w w' e (bs ++ (cL false cI).en xs) := by
  have EN : (cL false cI).en xs = enc m ++ (xs.map cI.en).flatten := by show enc xs.length ++ _ = _; rw [hV.len]
  rw [EN] at hl ⊢
  rw [List.length_append] at hl
  have FL := flat_len cI_good xs
  rw [hV.len] at FL
  have mb : m ≤ 9000000 := by omega
  have V := hid hV
  have L := hid hl
  have K := hid (ref14_many_any a n cap m bs w h (by have := h.len; omega) mb)
  clear hV hl FL EN h
  go_enter Tryd.func37, Tryd.ntmps37
  go_upto_region 2 with (go_at_call 35; (with_reducible refine Calls.mono K.out ?_); rintro e w2 ⟨⟨v2, rfl, o2⟩, b2⟩; have I2 := hid (Ri.mk o2 b2); clear o2 b2 K)
  go_wp2_with fail
  go_loopg [0, 5] m (fun g bv kv wr => ∃ i : Nat, i ≤ m ∧ g = m - i ∧ kv = .int .i64 (i : Nat) ∧ Hid (Ri w wr bv (bs ++ enc m ++ ((xs.take i).map cI.en).flatten)))
  case atStart => exact ⟨0, Nat.zero_le _, rfl, rfl, hid (Ri.cast I2.out (by simp))⟩
  case round =>
    obtain ⟨i, hi, rfl, rfl, hI⟩ := hrel
    by_cases q : i < m
    · have q' : (i : Int) < (m : Int) := by omega
      obtain ⟨g, o, x, rfl, hx, hA0, ht⟩ := V.out.get q
      have hA := aI_nx _ _ _ _ _ hA0 hI.out.bl
      have HT := hid (next_en cI.en (bs ++ enc m) ht)
      have LB := hid (show (bs ++ enc m ++ ((xs.take i).map cI.en).flatten).length ≤ 9000000 from by have := flat_take cI.en xs i; have := L.out; simp only [List.length_append]; omega)
      clear hA0 ht hx
      rw [Nat.mul_one] at hA
      obtain ⟨c0, ok0⟩ := hA
      obtain ⟨a3, n3, c3, rfl, y3⟩ := hI.out.own.flat
      have KC := hid (rPutI_any a3 n3 c3 x _ wr y3 (by have := y3.len; have := LB.out; omega) ok0.1 ok0.2)
      clear y3
      go_wp2_with (go_at_call 36; (with_reducible refine Calls.mono KC.out ?_); rintro e w4 ⟨⟨v4, rfl, o4⟩, b4⟩; have O4 := hid (hI.out.on o4 b4); clear o4 b4)
      go_roundg (m - (i + 1))
      case measure => omega
      case rel => exact ⟨i + 1, by omega, rfl, by rw [Int.natCast_add]; rfl, hid (Ri.cast O4.out HT.out)⟩
    · have q' : ¬ (i : Int) < (m : Int) := by omega
      have T0 : xs.take i = xs := List.take_of_length_le (by rw [V.out.len]; omega)
      have E0 := hid (show bs ++ enc m ++ ((xs.take i).map cI.en).flatten = bs ++ (enc m ++ (xs.map cI.en).flatten) from by rw [T0, List.append_assoc])
      clear T0
      go_wp2_with fail
      go_ret
      exact ⟨⟨_, rfl, by rw [← E0.out]; exact hI.out.own⟩, hI.out.bl⟩
set_option maxRecDepth 100000 in
set_option maxHeartbeats 16000000 in
theorem ref14_kinds_any (a : Option Addr) (n cap : Nat) (bs : List Int) (w : World) (h : By w a n cap bs) (b : Option Addr) (m c : Nat) (xs : List Int) (hV : Vw aI 1 w b m xs) (hl : bs.length + ((cL false cI).en xs).length ≤ 9000000) :
    Calls Tryd.prog 38 #[.slice a n cap, .slice b m c] w fun e w' => New w w' e (bs ++ (cL false cI).en xs) := by
  have EN : (cL false cI).en xs = enc m ++ (xs.map cI.en).flatten := by show enc xs.length ++ _ = _; rw [hV.len]
  rw [EN] at hl ⊢
  rw [List.length_append] at hl
  have FL := flat_len cI_good xs
  rw [hV.len] at FL
  have mb : m ≤ 9000000 := by omega
  have V := hid hV
  have L := hid hl
  have K := hid (ref14_many_any a n cap m bs w h (by have := h.len; omega) mb)
  clear hV hl FL EN h
  go_enter Tryd.func38, Tryd.ntmps38
  go_upto_region 2 with (go_at_call 35; (with_reducible refine Calls.mono K.out ?_); rintro e w2 ⟨⟨v2, rfl, o2⟩, b2⟩; have I2 := hid (Ri.mk o2 b2); clear o2 b2 K)
  go_wp2_with fail
  go_loopg [0, 5] m (fun g bv kv wr => ∃ i : Nat, i ≤ m ∧ g = m - i ∧ kv = .int .i64 (i : Nat) ∧ Hid (Ri w wr bv (bs ++ enc m ++ ((xs.take i).map cI.en).flatten)))
  case atStart => exact ⟨0, Nat.zero_le _, rfl, rfl, hid (Ri.cast I2.out (by simp))⟩
  case round =>
    obtain ⟨i, hi, rfl, rfl, hI⟩ := hrel
    by_cases q : i < m
    · have q' : (i : Int) < (m : Int) := by omega
      obtain ⟨g, o, x, rfl, hx, hA0, ht⟩ := V.out.get q
      have hA := aI_nx _ _ _ _ _ hA0 hI.out.bl
      have HT := hid (next_en cI.en (bs ++ enc m) ht)
      have LB := hid (show (bs ++ enc m ++ ((xs.take i).map cI.en).flatten).length ≤ 9000000 from by have := flat_take cI.en xs i; have := L.out; simp only [List.length_append]; omega)
      clear hA0 ht hx
      rw [Nat.mul_one] at hA
      obtain ⟨c0, ok0⟩ := hA
      obtain ⟨a3, n3, c3, rfl, y3⟩ := hI.out.own.flat
      have KC := hid (rPutI_any a3 n3 c3 x _ wr y3 (by have := y3.len; have := LB.out; omega) ok0.1 ok0.2)
      clear y3
      go_wp2_with (go_at_call 36; (with_reducible refine Calls.mono KC.out ?_); rintro e w4 ⟨⟨v4, rfl, o4⟩, b4⟩; have O4 := hid (hI.out.on o4 b4); clear o4 b4)
      go_roundg (m - (i + 1))
      case measure => omega
      case rel => exact ⟨i + 1, by omega, rfl, by rw [Int.natCast_add]; rfl, hid (Ri.cast O4.out HT.out)⟩
    · have q' : ¬ (i : Int) < (m : Int) := by omega
      have T0 : xs.take i = xs := List.take_of_length_le (by rw [V.out.len]; omega)
      have E0 := hid (show bs ++ enc m ++ ((xs.take i).map cI.en).flatten = bs ++ (enc m ++ (xs.map cI.en).flatten) from by rw [T0, List.append_assoc])
      clear T0
      go_wp2_with fail
      go_ret
      exact ⟨⟨_, rfl, by rw [← E0.out]; exact hI.out.own⟩, hI.out.bl⟩

end Go.Proofs.YtcmifdnndckpcaaDoor
