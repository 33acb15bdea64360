/- The walks over CutSuffix and over verify's kinds. -/
import Derived.Test.YtjkbiglnpoeddaaDoorVfj
namespace Go.Proofs.YtjkbiglnpoeddaaDoor.Vf
open Go.RowKit
set_option linter.unusedVariables false
set_option linter.unusedSimpArgs false

/-- A text without its end. -/
def cuF (s t : ByteArray) : ByteArray × Bool := if sfB s t = true then (s.extract 0 (s.size - t.size), true) else (s, false)
set_option maxRecDepth 100000 in
set_option maxHeartbeats 8000000 in
theorem CutSuffix2_any (s t : ByteArray) (w : World) (hs : s.size ≤ 1000000) (ht : t.size ≤ 1000000) : Calls Tryd.prog 53 #[.string s, .string t] w fun e w' => e = .returned (.tuple #[.string (cuF s t).1, .bool (cuF s t).2]) ∧ w = w' := by
  have KH := hid (HasSuffix_any s t w hs ht)
  have s1 : (s.size : Int) ≤ 1000000 := by omega
  have t1 : (t.size : Int) ≤ 1000000 := by omega
  cases z : sfB s t with
  | true =>
    rw [z] at KH
    have q : t.size ≤ s.size := by
      unfold sfB at z
      simp only [Bool.and_eq_true, decide_eq_true_eq] at z
      exact z.1
    have q1 : (t.size : Int) ≤ s.size := by omega
    rw [show cuF s t = (s.extract 0 (s.size - t.size), true) from by unfold cuF; rw [if_pos z]]
    clear z
    go_enter Tryd.func53, Tryd.ntmps53
    go_wp2_with (go_at_call 57; (with_reducible refine Calls.mono KH.out ?_); rintro e w1 ⟨rfl, rfl⟩)
    go_returns
    exact ⟨rfl, rfl⟩
  | false =>
    rw [z] at KH
    rw [show cuF s t = (s, false) from by unfold cuF; rw [if_neg (by rw [z]; decide)]]
    clear z
    go_enter Tryd.func53, Tryd.ntmps53
    go_wp2_with (go_at_call 57; (with_reducible refine Calls.mono KH.out ?_); rintro e w1 ⟨rfl, rfl⟩)
    go_returns
    exact ⟨rfl, rfl⟩
set_option maxRecDepth 100000 in
set_option maxHeartbeats 8000000 in
theorem CutSuffix_any (s t : ByteArray) (w : World) (hs : s.size ≤ 1000000) (ht : t.size ≤ 1000000) : Calls Tryd.prog 32 #[.string s, .string t] w fun e w' => e = .returned (.tuple #[.string (cuF s t).1, .bool (cuF s t).2]) ∧ w = w' := by
  have KH := hid (CutSuffix2_any s t w hs ht)
  generalize cuF s t = r at *
  obtain ⟨r1, r2⟩ := r
  go_enter Tryd.func32, Tryd.ntmps32
  go_wp2_with (go_at_call 53; (with_reducible refine Calls.mono KH.out ?_); rintro e w1 ⟨rfl, rfl⟩)
  go_returns
  exact ⟨rfl, rfl⟩
theorem by_new1 (w : World) (x : Int) (hx : 0 ≤ x ∧ x < 256) : By (w.alloc (.cells #[.int .u8 x] 5)) (some ⟨w.heap.size, 0, none⟩) 1 1 [x] := by
  refine ⟨rfl, Nat.le_refl _, by decide, fun e => by simp at e, ⟨w.heap.size, 0, fun _ => rfl, fun i hi => ?_⟩, Bys.mk hx.1 hx.2 Bys.nil⟩
  obtain rfl : i = 0 := by omega
  rw [Nat.zero_add]
  exact cells_new w [.int .u8 x] _ 0 _ rfl
/-- Between two rounds of kinds. -/
structure KI (w wr : World) (v : Value) (bs : List Int) : Prop where
  row : Own wr w.heap.size v bs
  bl : Below w.heap.size w wr
theorem KI.cast {w wr : World} {v : Value} {a b : List Int} (h : KI w wr v a) (e : a = b) : KI w wr v b := e ▸ h
set_option maxRecDepth 100000 in
set_option maxHeartbeats 8000000 in
theorem kinds_any {w : World} {a : Option Addr} {m cap : Nat} {ks : List Int} (hV : Vw aZ 1 w a m ks) (hk : ∀ k, k ∈ ks → 0 ≤ k ∧ k < 256) (hm : m ≤ 1000) :
    Calls Tryd.prog 51 #[.slice a m cap] w fun e w' => e = .returned (.string (strOfNums ks)) ∧ Below w.heap.size w w' := by
  have V := hid hV
  have HK := hid hk
  have HM := hid hm
  have mb : (m : Int) ≤ 1000 := by omega
  clear hV hk hm
  go_enter Tryd.func51, Tryd.ntmps51
  go_wp2_with fail
  go_loopg [3, 8] m (fun g bv kv wr => ∃ i : Nat, i ≤ m ∧ g = m - i ∧ kv = .int .i64 (i : Nat) ∧ Hid (KI w wr bv (ks.take i)))
  case atStart => exact ⟨0, Nat.zero_le _, rfl, rfl, ⟨Own.nil _ _, Below.refl _ _⟩⟩
  case round =>
    obtain ⟨i, hi, rfl, rfl, hI⟩ := hrel
    by_cases q : i < m
    · have q' : (i : Int) < (m : Int) := by omega
      obtain ⟨g, o, x, rfl, hx, hA0, ht⟩ := V.out.get q
      have cc : wr.cell? ⟨g, o + i, none⟩ = some (.int .i64 x) := by
        have := aZ_nx _ _ _ _ _ hA0 hI.out.bl
        rw [Nat.mul_one] at this
        exact this
      have HT := hid ht
      have hr := HK.out x (List.mem_of_getElem? hx)
      have HR := hid hr
      have e8 : x % 256 = x := by omega
      have O3 := hid (hI.out.row.below (allocB wr (.cells #[.int .u8 x] 5)))
      have B3 := hid (nxB hI.out.bl (allocB wr (.cells #[.int .u8 x] 5)))
      have Y3 := hid (by_new1 wr x hr)
      have LT := hid (show (ks.take i).length ≤ 1000 from by rw [List.length_take]; have := HM.out; omega)
      clear hA0 ht hx hI hr
      go_wp2_with (at_builtin; refine wpList_append_by rfl (.tmp 12) (.tmp 15) rfl w.heap.size _ (ks.take i) rfl O3.out (some ⟨wr.heap.size, 0, none⟩) 1 1 [x] rfl Y3.out (by have := LT.out; omega) (by have := B3.out.size; omega) ?_; intro v4 w4 o4 g4)
      have I4 := hid (show KI w w4 v4 (ks.take (i + 1)) from KI.cast ⟨o4, (grown_new B3.out B3.out.size O3.out g4).1⟩ HT.out.symm)
      clear o4 g4
      go_roundg (m - (i + 1))
      case measure => omega
      case rel => exact ⟨i + 1, by omega, rfl, by rw [Int.natCast_add]; rfl, I4.out⟩
    · have q' : ¬ (i : Int) < (m : Int) := by omega
      have T0 := hid (show ks.take i = ks from List.take_of_length_le (by rw [V.out.len]; omega))
      have I0 := hid (KI.cast hI.out T0.out)
      clear hI T0
      obtain ⟨ad, cp, rfl, hy, -⟩ := I0.out.row.by
      have kc := hy.str
      go_wp2_with fail
      go_ret
      exact ⟨rfl, I0.out.bl⟩

end Go.Proofs.YtjkbiglnpoeddaaDoor.Vf
