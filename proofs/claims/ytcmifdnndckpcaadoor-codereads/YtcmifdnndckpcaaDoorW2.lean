/- The walks over package pack's writers. -/
import Derived.Test.YtcmifdnndckpcaaDoorW1
namespace Go.Proofs.YtcmifdnndckpcaaDoor
open Go.RowKit
set_option linter.unusedVariables false
set_option linter.unusedSimpArgs false

set_option maxHeartbeats 1000000 in
theorem copied_any (a : Option Addr) (n cap k : Nat) (bs : List Int) (w : World) (h : By w a n cap bs) (hn : n ≤ 20000000) (hk : k ≤ 20000000) :
    Calls Tryd.prog 79 #[.slice a n cap, .int .i64 k] w fun e w' => (∃ v, e = .returned v ∧ Own w' w.heap.size v bs) ∧ Below w.heap.size w w' := by
  obtain ⟨i0, hi, hz0, hz1, hz2⟩ := info_parts byteInfo
  have H : Hid _ := h
  have HI : Hid _ := hi
  have HZ : Hid _ := And.intro hz0 (And.intro hz1 hz2)
  clear h hi hz0 hz1 hz2
  go_enter Tryd.func79, Tryd.ntmps79
  go_wp2_with (first | (at_make; refine wpList_make_own _ rfl _ _ 38 rfl w.heap.size 5 i0 (.int .u8 0) 1 Tryd.underlying38 HI.out HZ.out.1 HZ.out.2.1 .i64 .i64 _ (n + k) rfl rfl (by omega) (by rw [HZ.out.2.2]; omega) (by unfold maxLen; omega) (Nat.le_refl _) ?_; intro w1 o1 g1) | (at_builtin; refine wpList_append_by rfl (.tmp 9) (.tmp 10) rfl w.heap.size _ [] rfl ⟨o1, Bys.nil⟩ a n cap bs rfl (H.out.grown g1 (fun _ _ _ => by simp)) (by simp; omega) g1.size ?_; intro v2 w2 o2 g2))
  go_ret
  rw [List.nil_append] at o2
  have B1 : Below w.heap.size w w1 := (Below.refl _ _).grown g1 (Nat.le_refl _) (fun k hk => by cases hk)
  exact ⟨⟨v2, rfl, o2⟩, B1.grown g2 g1.size (fun k hk => (o1.lt k hk).1)⟩

/-- One byte in a block of its own. -/
theorem by_new (w : World) (x : Int) (t : TypeId) (h0 : 0 ≤ x) (h1 : x < 256) : By (w.alloc (.cells #[.int .u8 x] t)) (some ⟨w.heap.size, 0, none⟩) 1 1 [x] :=
  ⟨rfl, Nat.le_refl _, by decide, fun e => by simp at e, ⟨w.heap.size, 0, fun _ => rfl, fun i hi => by
    obtain rfl : i = 0 := by omega
    simp⟩, Bys.mk h0 h1 Bys.nil⟩

theorem or128 (x : Nat) : bits .or .u8 ((x : Int) % 256) 128 = ((x % 128 + 128 : Nat) : Int) := by
  have e : (x : Int) % 256 = ((x % 256 : Nat) : Int) := by omega
  have h := u8_or_nat (x % 256) 128 (by omega) (by omega)
  rw [e]
  rw [show ((128 : Nat) : Int) = 128 from rfl] at h
  rw [h]
  have key : ∀ y : Fin 256, y.val ||| 128 = y.val % 128 + 128 := by decide +kernel
  have := key ⟨x % 256, by omega⟩
  simp only at this
  rw [this]
  omega

set_option maxHeartbeats 1000000 in
theorem number_own (v : Value) (u base : Nat) (bs : List Int) (w : World) (h : Own w base v bs) (hB : base ≤ w.heap.size) (hn : bs.length ≤ 40000000) (hu : u < 18446744073709551616) :
    Calls Tryd.prog 78 #[v, .int .u64 u] w fun e w' => (∃ v', e = .returned v' ∧ Own w' base v' (bs ++ enc u)) ∧ Below base w w' := by
  have L10 : Hid _ := enc_len10 hu
  have H : Hid _ := h
  clear h
  go_enter Tryd.func78, Tryd.ntmps78
  go_wp2_with fail
  go_loopg [0, 1] u (fun g vv uv wr => ∃ (x : Nat) (pre : List Int), uv = .int .u64 x ∧ g = x ∧ x < 18446744073709551616 ∧ Hid (Own wr base vv (bs ++ pre)) ∧ Hid (enc u = pre ++ enc x) ∧ Hid (Below base w wr) ∧ base ≤ wr.heap.size)
  case atStart => exact ⟨u, [], rfl, rfl, hu, by simpa using H, rfl, Below.refl _ _, hB⟩
  case round =>
    obtain ⟨x, pre, rfl, rfl, hx, hO, hE, hL, hS⟩ := hrel
    have hpl : Hid (pre.length ≤ 9) := by
      have e := L10.out
      rw [hE.out, List.length_append] at e
      have := enc_pos gk
      show pre.length ≤ 9
      omega
    by_cases c : gk < 128
    · have c' : ¬ (128 : Int) ≤ (gk : Int) := by omega
      have m8 : (gk : Int) % 256 = gk := by omega
      go_wp2_with (at_builtin; refine wpList_append_by rfl (.tmp 15) (.tmp 18) rfl base _ (bs ++ pre) rfl (hO.out.below ((Below.refl _ _).alloc (Nat.le_refl _) _)) (some ⟨wr.heap.size, 0, none⟩) 1 1 [(gk : Int)] rfl (by_new _ _ _ (by omega) (by omega)) (by have := hpl.out; simp; omega) (by simp; omega) ?_; intro v2 w2 o2 g2)
      go_ret
      rw [List.append_assoc, ← enc_lt c, ← hE.out] at o2
      have B2 := (hL.out.alloc hS (.cells #[.int .u8 (gk : Int)] 5)).grown g2 (by simp; omega) (fun k hk => (hO.out.row.lt k hk).1)
      exact ⟨⟨v2, rfl, o2⟩, B2⟩
    · have c' : (128 : Int) ≤ (gk : Int) := by omega
      have o8 := or128 gk
      obtain ⟨y, hy⟩ : ∃ y : Int, y = ((gk % 128 + 128 : Nat) : Int) := ⟨_, rfl⟩
      obtain ⟨q, hq⟩ : ∃ q : Nat, q = gk / 128 := ⟨_, rfl⟩
      have sh : (gk : Int) / 128 = (q : Int) := by omega
      rw [← hy] at o8
      have Y : Hid _ := hy
      have Q : Hid _ := hq
      have E2 : Hid (enc u = (pre ++ [y]) ++ enc q) := by show enc u = _; rw [hE.out, enc_ge (by omega), hy, hq]; simp
      have y0 : Hid (0 ≤ y ∧ y < 256) := by show 0 ≤ y ∧ y < 256; omega
      have qg : Hid (q < gk) := by show q < gk; omega
      clear hy hq
      go_wp2_with (at_builtin; refine wpList_append_by rfl (.tmp 7) (.tmp 11) rfl base _ (bs ++ pre) rfl (hO.out.below ((Below.refl _ _).alloc (Nat.le_refl _) _)) (some ⟨wr.heap.size, 0, none⟩) 1 1 [y] rfl (by_new _ _ _ y0.out.1 y0.out.2) (by have := hpl.out; simp; omega) (by simp; omega) ?_; intro v2 w2 o2 g2)
      go_roundg q
      case measure => exact qg.out
      case rel =>
        rw [List.append_assoc] at o2
        have B2 := (hL.out.alloc hS (.cells #[.int .u8 y] 5)).grown g2 (by simp; omega) (fun k hk => (hO.out.row.lt k hk).1)
        exact ⟨q, pre ++ [y], rfl, rfl, by have := qg.out; omega, o2, E2.out, B2, by have := g2.size; simp at this; omega⟩

end Go.Proofs.YtcmifdnndckpcaaDoor
