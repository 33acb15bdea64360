/- Proved: the law PackBack of package publicanlaw3 returns true for every two rows of numbers of 64 bits and every row of texts, whatever memory it starts in, on every schedule; the table of package pack holds what the program's text lays (the card ties it to that text). -/
import Derived.Test.YtgjimoihbbogdaaDoorCards
import Derived.Test.YtgjimoihbbogdaaDoorTie
import Derived.Test.YtgjimoihbbogdaaDoorW9
import Derived.Deep.RegionHeld3
namespace Go.Proofs.YtgjimoihbbogdaaDoor.packBack
open Go.ChangeMaps (open_string shut_string)
open Go.ChangeShapes Go.WideShapes Go.ChangeAt Go.RowKit
set_option linter.unusedVariables false

theorem flat_take {α : Type} {f : α → List Int} {l : List α} {k : Nat} (h : k < l.length) (d : α) : (l.take (k + 1)).flatMap f = (l.take k).flatMap f ++ f (l.getD k d) := by
  have e : l.getD k d = l[k] := by simp [List.getD, h]
  rw [List.take_succ_eq_append_getElem h, List.flatMap_append, e]
  simp
theorem flat_drop {α : Type} {f : α → List Int} {l : List α} {k : Nat} (h : k < l.length) (d : α) : (l.drop k).flatMap f = f (l.getD k d) ++ (l.drop (k + 1)).flatMap f := by
  have e : l.getD k d = l[k] := by simp [List.getD, h]
  rw [List.drop_eq_getElem_cons h, List.flatMap_cons, e]
def fU (x : Int) : List Int := enc x.toNat
def fI (x : Int) : List Int := enc (zig x)
def fS (s : ByteArray) : List Int := enc s.size ++ nums s
def F0 (l : List Int) : List Int := l.flatMap fU
def F1 (l : List Int) : List Int := l.flatMap fI
def F2 (l : List ByteArray) : List Int := l.flatMap fS
theorem fS_read (s : ByteArray) (h : s.size ≤ 100) (r : List Int) : strOfNums (tU (fS s ++ r)) = s ∧ tR (fS s ++ r) = r ∧ tB (fS s ++ r) = false := by
  have l := nums_len s
  have e := tU_enc (s := nums s) (by omega) r
  rw [l] at e
  unfold fS
  rw [e.1, e.2.1, e.2.2, nums_str]
  exact ⟨rfl, rfl, rfl⟩
theorem getD_mem {l : List Int} {k : Nat} (h : k < l.length) : l.getD k 0 ∈ l := by
  have e : l.getD k 0 = l[k] := by simp [List.getD, h]
  rw [e]; exact List.getElem_mem h

/-- What the writing loops hold. -/
structure Wr (w0 : World) (a : Option Addr) (n cap : Nat) (bs : List Int) (top : Nat) (W : World) : Prop where
  b : By W a n cap bs
  le : n ≤ top
  bl : Below w0.heap.size w0 W
theorem Wr.next {w0 W W' : World} {a : Option Addr} {n cap top : Nat} {bs add : List Int} {e : Ending} (h : Wr w0 a n cap bs top W) (hn : New W W' e (bs ++ add)) {t2 : Nat} (ht : top + add.length ≤ t2) : ∃ a' n' cap', e = .returned (.slice a' n' cap') ∧ Wr w0 a' n' cap' (bs ++ add) t2 W' := by
  obtain ⟨⟨v, rfl, o⟩, b⟩ := hn
  obtain ⟨a', cap', rfl, y, -, -⟩ := o.by
  exact ⟨a', _, cap', rfl, y, by have := h.b.len; have := h.le; simp; omega, nextB h.bl b⟩
/-- What the reading loops hold. -/
structure Re (w0 : World) (p q : Nat) (bs : List Int) (W : World) : Prop where
  r : Rd W p q false bs
  le : bs.length ≤ 10000
  lo : w0.heap.size ≤ p
  bl : Below w0.heap.size w0 W
theorem Re.drew {w0 W : World} {p q : Nat} {bs : List Int} (h : Re w0 p q bs W) : Re w0 p q bs W.drew :=
  ⟨h.r.below ⟨rfl, rfl, rfl, Nat.le_refl _, fun _ _ => rfl⟩, h.le, h.lo, h.bl.drew⟩
theorem Re.next {w0 W W' : World} {p q : Nat} {bs bs' : List Int} (h : Re w0 p q bs W) (hr : Rd W' p q false bs') (hg : W.grownBy W' (some p)) (hl : bs'.length ≤ bs.length) : Re w0 p q bs' W' :=
  ⟨hr, Nat.le_trans hl h.le, h.lo, h.bl.grown hg h.bl.size (fun k hk => by simp at hk; have := h.lo; omega)⟩
theorem ns {k : IntKind} {w0 W : World} {a : Option Addr} {m cap : Nat} {zs : List Int} (h : Nm k w0 a m cap zs) (hb : Below w0.heap.size w0 W) {i : Nat} (hi : i < m) : ∃ b o, a = some ⟨b, o, none⟩ ∧ W.cell? ⟨b, o + i, none⟩ = some (.int k (zs.getD i 0)) ∧ b < w0.heap.size := by
  obtain ⟨b, o, h1, h2⟩ := h.cell
  have lt := World.block_lt_of_cell? _ _ (h2 i hi)
  exact ⟨b, o, h1 (by omega), by rw [hb.cell (p := ⟨b, o + i, none⟩) lt]; exact h2 i hi, lt⟩
theorem ts {w0 W : World} {a : Option Addr} {m cap : Nat} {zs : List ByteArray} (h : Tx w0 a m cap zs) (hb : Below w0.heap.size w0 W) {i : Nat} (hi : i < m) : ∃ b o, a = some ⟨b, o, none⟩ ∧ W.cell? ⟨b, o + i, none⟩ = some (.string (zs.getD i ByteArray.empty)) ∧ b < w0.heap.size := by
  obtain ⟨b, o, h1, h2⟩ := h.cell
  have lt := World.block_lt_of_cell? _ _ (h2 i hi)
  exact ⟨b, o, h1 (by omega), by rw [hb.cell (p := ⟨b, o + i, none⟩) lt]; exact h2 i hi, lt⟩

set_option maxHeartbeats 4000000 in
theorem walk_0 (w : World) (ht : Tab w) (a0 a1 a2 : Option Addr) (m0 m1 m2 k0 k1 k2 : Nat) (h : 30 < m0) :
    Calls Tryd.prog 6 #[.slice a0 m0 k0, .slice a1 m1 k1, .slice a2 m2 k2] w fun e w' => e = .returned (.bool true) ∧ Below w.heap.size w w' := by
  have T : Hid (Tab w) := ht
  clear ht
  have h' : (30 : Int) < (m0 : Int) := by omega
  go_enter Tryd.func6, Tryd.ntmps6
  go_wp2_with (go_at_call 9; refine (awake_any w T.out).mono ?_; rintro e w1 ⟨rfl, b1⟩)
  go_ret
  exact ⟨rfl, b1⟩

set_option maxHeartbeats 4000000 in
theorem walk_1 (w : World) (ht : Tab w) (a0 a1 a2 : Option Addr) (m0 m1 m2 k0 k1 k2 : Nat) (h : m0 ≤ 30) (h1 : 30 < m1) :
    Calls Tryd.prog 6 #[.slice a0 m0 k0, .slice a1 m1 k1, .slice a2 m2 k2] w fun e w' => e = .returned (.bool true) ∧ Below w.heap.size w w' := by
  have T : Hid (Tab w) := ht
  clear ht
  have h' : ¬ (30 : Int) < (m0 : Int) := by omega
  have h1' : (30 : Int) < (m1 : Int) := by omega
  go_enter Tryd.func6, Tryd.ntmps6
  go_wp2_with (go_at_call 9; refine (awake_any w T.out).mono ?_; rintro e w1 ⟨rfl, b1⟩)
  go_ret
  exact ⟨rfl, b1⟩

set_option maxHeartbeats 4000000 in
theorem walk_2 (w : World) (ht : Tab w) (a0 a1 a2 : Option Addr) (m0 m1 m2 k0 k1 k2 : Nat) (h : m0 ≤ 30) (h1 : m1 ≤ 30) (h2 : 30 < m2) :
    Calls Tryd.prog 6 #[.slice a0 m0 k0, .slice a1 m1 k1, .slice a2 m2 k2] w fun e w' => e = .returned (.bool true) ∧ Below w.heap.size w w' := by
  have T : Hid (Tab w) := ht
  clear ht
  have h' : ¬ (30 : Int) < (m0 : Int) := by omega
  have h1' : ¬ (30 : Int) < (m1 : Int) := by omega
  have h2' : (30 : Int) < (m2 : Int) := by omega
  go_enter Tryd.func6, Tryd.ntmps6
  go_wp2_with (go_at_call 9; refine (awake_any w T.out).mono ?_; rintro e w1 ⟨rfl, b1⟩)
  go_ret
  exact ⟨rfl, b1⟩

set_option maxHeartbeats 20000000 in
theorem walk_main (w : World) (ht : Tab w) (a0 a1 a2 : Option Addr) (m0 m1 m2 k0 k1 k2 : Nat) (us vs : List Int) (ss : List ByteArray) (hu : Nm .u64 w a0 m0 k0 us) (hv : Nm .i64 w a1 m1 k1 vs) (hs : Tx w a2 m2 k2 ss) (h0 : m0 ≤ 30) (h1 : m1 ≤ 30) (h2 : m2 ≤ 30) :
    Calls Tryd.prog 6 #[.slice a0 m0 k0, .slice a1 m1 k1, .slice a2 m2 k2] w fun e w' => e = .returned (.bool true) ∧ Below w.heap.size w w' := by
  have TT : Hid (Tab w) := ht
  have HU : Hid (Nm .u64 w a0 m0 k0 us) := hu
  have HV : Hid (Nm .i64 w a1 m1 k1 vs) := hv
  have HS : Hid (Tx w a2 m2 k2 ss) := hs
  have e0 : ¬ (30 : Int) < (m0 : Int) := by omega
  have e1' : ¬ (30 : Int) < (m1 : Int) := by omega
  have e2' : ¬ (30 : Int) < (m2 : Int) := by omega
  clear ht hu hv hs
  go_enter Tryd.func6, Tryd.ntmps6
  go_wp2_with fail
  refine (awake_any w TT.out).mono ?_
  rintro e w1 ⟨rfl, b1⟩
  have B1 : Hid (Below w.heap.size w w1) := b1
  clear b1
  go_wp2_with fail
  go_loopg [8] m2 (fun g iv wr => ∃ (k : Nat), k ≤ m2 ∧ g = m2 - k ∧ iv = .int .i64 k ∧ wr = w1 ∧ Hid (∀ i, i < k → (ss.getD i ByteArray.empty).size ≤ 100))
  case atStart => exact ⟨0, Nat.zero_le _, rfl, rfl, rfl, fun i hi => absurd hi (Nat.not_lt_zero i)⟩
  case round =>
    obtain ⟨k, hk, rfl, rfl, rfl, SZ⟩ := hrel
    by_cases qk : k < m2
    · have qk' : (k : Int) < (m2 : Int) := by omega
      obtain ⟨b, o, rfl, e1, -⟩ := ts HS.out B1.out qk
      obtain ⟨st, hst⟩ : ∃ x, ss.getD k ByteArray.empty = x := ⟨_, rfl⟩
      rw [hst] at e1
      have ST : Hid _ := hst
      clear hst
      by_cases c : 100 < st.size
      · have c' : (100 : Int) < (st.size : Int) := by omega
        go_wp2
        go_ret
        exact ⟨rfl, B1.out⟩
      · have c' : ¬ (100 : Int) < (st.size : Int) := by omega
        have SZ2 : Hid (∀ i, i < k + 1 → (ss.getD i ByteArray.empty).size ≤ 100) := fun i hi => by
          rcases Nat.lt_or_eq_of_le (show i ≤ k by omega) with z | z
          · exact SZ.out i z
          · subst z; rw [ST.out]; omega
        go_wp2
        go_roundg (m2 - (k + 1))
        case measure => omega
        case rel => exact ⟨k + 1, by omega, rfl, by go_num, rfl, SZ2⟩
    · obtain rfl : m2 = k := by omega
      clear qk
      go_wp2_with fail
      go_loopg [7, 9] m0 (fun g vv iv wr => ∃ (k n cap : Nat) (a : Option Addr), k ≤ m0 ∧ g = m0 - k ∧ vv = .slice a n cap ∧ iv = .int .i64 k ∧ Hid (Wr w a n cap (F0 (us.take k)) (0 + 10 * k) wr))
      case atStart => exact ⟨0, _, _, _, Nat.zero_le _, rfl, rfl, rfl, ⟨By.empty _, Nat.zero_le _, B1.out⟩⟩
      case round =>
        obtain ⟨k, n, cap, a, hk, rfl, rfl, rfl, T⟩ := hrel
        by_cases qk : k < m0
        · have qk' : (k : Int) < (m0 : Int) := by omega
          obtain ⟨b, o, rfl, e1, -⟩ := ns HU.out T.out.bl qk
          have tk : Hid (F0 (us.take (k + 1)) = F0 (us.take k) ++ enc (us.getD k 0).toNat) := by
            show _ = _
            unfold F0
            rw [flat_take (by rw [HU.out.len]; exact qk) 0]; rfl
          have bu := bounds_u64 (HU.out.ok _ (getD_mem (show k < us.length by rw [HU.out.len]; exact qk)))
          have l10 : Hid _ := enc_len10 (show (us.getD k 0).toNat < 18446744073709551616 by omega)
          obtain ⟨x, hx⟩ : ∃ x : Nat, (x : Int) = us.getD k 0 := ⟨(us.getD k 0).toNat, by omega⟩
          have xx : (us.getD k 0).toNat = x := by omega
          rw [xx] at tk l10
          rw [← hx] at e1
          have XX : Hid _ := pU_any a n cap x _ wr T.out.b (by have := T.out.le; omega) (by omega)
          clear hx xx bu
          go_wp2_with (go_at_call 17; refine Calls.mono (XX.out) ?_; intro e w2 hw2; obtain ⟨a', n', cap', rfl, T2⟩ := T.out.next hw2 (t2 := 0 + 10 * (k + 1)) (by have := l10.out; omega); have TT : Hid _ := T2; clear hw2 T2)
          go_roundg (m0 - (k + 1))
          case measure => omega
          case rel => exact ⟨k + 1, n', cap', a', by omega, rfl, rfl, by go_num, by rw [tk.out]; exact TT.out⟩
        · obtain rfl : m0 = k := by omega
          clear qk
          go_wp2_with fail
          go_loopg [7, 10] m1 (fun g vv iv wr => ∃ (k n cap : Nat) (a : Option Addr), k ≤ m1 ∧ g = m1 - k ∧ vv = .slice a n cap ∧ iv = .int .i64 k ∧ Hid (Wr w a n cap (F0 us ++ F1 (vs.take k)) (300 + 10 * k) wr))
          case atStart => exact ⟨0, _, _, _, Nat.zero_le _, rfl, rfl, rfl, by have := T.out; rw [show us.take m0 = us from List.take_of_length_le (by rw [HU.out.len]; exact Nat.le_refl _)] at this; exact ⟨by simpa [F1] using this.b, by have := this.le; omega, this.bl⟩⟩
          case round =>
            obtain ⟨k, n, cap, a, hk, rfl, rfl, rfl, T⟩ := hrel
            by_cases qk : k < m1
            · have qk' : (k : Int) < (m1 : Int) := by omega
              obtain ⟨b, o, rfl, e1, -⟩ := ns HV.out T.out.bl qk
              have tk : Hid (F0 us ++ F1 (vs.take (k + 1)) = F0 us ++ F1 (vs.take k) ++ enc (zig (vs.getD k 0))) := by
                show _ = _
                unfold F1
                rw [flat_take (by rw [HV.out.len]; exact qk) 0, ← List.append_assoc]; rfl
              have bv := bounds_i64 (HV.out.ok _ (getD_mem (show k < vs.length by rw [HV.out.len]; exact qk)))
              have l10 : Hid _ := enc_len10 (zig_lt (show -9223372036854775808 ≤ vs.getD k 0 by omega) (show vs.getD k 0 < 9223372036854775808 by omega))
              go_wp2_with (go_at_call 19; refine Calls.mono (pI_any a n cap (vs.getD k 0) _ wr T.out.b (by have := T.out.le; omega) (by omega) (by omega)) ?_; intro e w2 hw2; obtain ⟨a', n', cap', rfl, T2⟩ := T.out.next hw2 (t2 := 300 + 10 * (k + 1)) (by have := l10.out; omega); have TT : Hid _ := T2; clear hw2 T2)
              go_roundg (m1 - (k + 1))
              case measure => omega
              case rel => exact ⟨k + 1, n', cap', a', by omega, rfl, rfl, by go_num, by rw [tk.out]; exact TT.out⟩
            · obtain rfl : m1 = k := by omega
              clear qk
              go_wp2_with fail
              go_loopg [7, 11] m2 (fun g vv iv wr => ∃ (k n cap : Nat) (a : Option Addr), k ≤ m2 ∧ g = m2 - k ∧ vv = .slice a n cap ∧ iv = .int .i64 k ∧ Hid (Wr w a n cap (F0 us ++ F1 vs ++ F2 (ss.take k)) (600 + 110 * k) wr))
              case atStart => exact ⟨0, _, _, _, Nat.zero_le _, rfl, rfl, rfl, by have := T.out; rw [show vs.take m1 = vs from List.take_of_length_le (by rw [HV.out.len]; exact Nat.le_refl _)] at this; exact ⟨by simpa [F2] using this.b, by have := this.le; omega, this.bl⟩⟩
              case round =>
                obtain ⟨k, n, cap, a, hk, rfl, rfl, rfl, T⟩ := hrel
                by_cases qk : k < m2
                · have qk' : (k : Int) < (m2 : Int) := by omega
                  obtain ⟨b, o, rfl, e1, -⟩ := ts HS.out T.out.bl qk
                  have tk : Hid (F0 us ++ F1 vs ++ F2 (ss.take (k + 1)) = F0 us ++ F1 vs ++ F2 (ss.take k) ++ (enc (ss.getD k ByteArray.empty).size ++ nums (ss.getD k ByteArray.empty))) := by
                    show _ = _
                    unfold F2
                    rw [flat_take (by rw [HS.out.len]; exact qk) ByteArray.empty, ← List.append_assoc]; rfl
                  have s100 := SZ.out k qk
                  have l10 : Hid _ := enc_len10 (show (ss.getD k ByteArray.empty).size < 18446744073709551616 by omega)
                  have nl : Hid _ := nums_len (ss.getD k ByteArray.empty)
                  go_wp2_with (go_at_call 21; refine Calls.mono (pS_any a n cap (ss.getD k ByteArray.empty) _ wr T.out.b (by have := T.out.le; omega) (by have := SZ.out k qk; omega)) ?_; intro e w2 hw2; rw [List.append_assoc] at hw2; obtain ⟨a', n', cap', rfl, T2⟩ := T.out.next hw2 (t2 := 600 + 110 * (k + 1)) (by have := l10.out; have := nl.out; rw [List.length_append]; omega); have TT : Hid _ := T2; clear hw2 T2)
                  go_roundg (m2 - (k + 1))
                  case measure => omega
                  case rel => exact ⟨k + 1, n', cap', a', by omega, rfl, rfl, by go_num, by rw [tk.out]; exact TT.out⟩
                · obtain rfl : m2 = k := by omega
                  clear qk
                  have T4 := T.out
                  rw [show ss.take m2 = ss from List.take_of_length_le (by rw [HS.out.len]; exact Nat.le_refl _)] at T4
                  go_wp2_with fail
                  refine (Read_any a n cap (F0 us ++ F1 vs ++ F2 ss) wr T4.b (by have := T4.le; omega) (by have := T4.bl.size; have := TT.out.1; omega)).mono ?_
                  rintro e w5 ⟨p, q, rfl, r5, p1, p2, q2, b5⟩
                  have R4 : Hid (Re w p q (F0 (us.drop 0) ++ F1 vs ++ F2 ss) w5) := ⟨r5, by have := T4.b.len; have := T4.le; simp only [List.drop_zero]; omega, by have := T4.bl.size; omega, nextB T4.bl b5⟩
                  clear T T4 r5 p1 p2 q2 b5
                  go_wp2_with fail
                  go_loopg [13] m0 (fun g iv wr => ∃ (k : Nat), k ≤ m0 ∧ g = m0 - k ∧ iv = .int .i64 k ∧ Hid (Re w p q (F0 (us.drop k) ++ F1 vs ++ F2 ss) wr))
                  case atStart => exact ⟨0, Nat.zero_le _, rfl, rfl, R4.out⟩
                  case round =>
                    obtain ⟨k, hk, rfl, rfl, T⟩ := hrel
                    by_cases qk : k < m0
                    · have qk' : (k : Int) < (m0 : Int) := by omega
                      obtain ⟨b, o, rfl, e1, bw⟩ := ns HU.out T.out.bl qk
                      have fd : Hid (F0 (us.drop k) ++ F1 vs ++ F2 ss = fU (us.getD k 0) ++ (F0 (us.drop (k + 1)) ++ F1 vs ++ F2 ss)) := by
                        show F0 (us.drop k) ++ F1 vs ++ F2 ss = _
                        unfold F0
                        rw [flat_drop (by rw [HU.out.len]; exact qk) 0]; simp only [List.append_assoc]
                      have bu := bounds_u64 (HU.out.ok _ (getD_mem (show k < us.length by rw [HU.out.len]; exact qk)))
                      have ee := rU_enc (show (us.getD k 0).toNat < 18446744073709551616 by omega) (F0 (us.drop (k + 1)) ++ F1 vs ++ F2 ss)
                      have TD := T.out.drew
                      rw [fd.out] at TD
                      have e1d : wr.drew.cell? ⟨b, o + k, none⟩ = some (.int .u64 (us.getD k 0)) := e1
                      have KR : Hid _ := RU_is (u := us.getD k 0) (b' := false) (bs' := F0 (us.drop (k + 1)) ++ F1 vs ++ F2 ss) TD.r (Nat.le_trans TD.le (by decide)) (by unfold fU; rw [ee.1]; omega) (by unfold fU; rw [ee.2.2]; rfl) (by unfold fU; exact ee.2.1)
                      have hlen : Hid ((F0 (us.drop (k + 1)) ++ F1 vs ++ F2 ss).length ≤ (fU (us.getD k 0) ++ (F0 (us.drop (k + 1)) ++ F1 vs ++ F2 ss)).length) := by show _ ≤ _; simp only [List.length_append]; omega
                      have TD2 : Hid _ := TD
                      clear TD fd
                      generalize us.getD k 0 = x at *
                      clear ee bu
                      go_wp2_with fail
                      go_region_held3 (fun W => W.cell? ⟨b, o + k, none⟩ = some (.int .u64 x)) (with_reducible assumption) (first | (go_at_call 11; refine Calls.mono KR.out ?_; rintro e w2 ⟨rfl, r2, g2⟩; have NX : Hid _ := TD2.out.next r2 g2 hlen.out; have e2 : w2.cell? ⟨b, o + k, none⟩ = some (.int .u64 x) := (World.cell?_of_block (w := wr.drew) (a := ⟨b, o + k, none⟩) (g2.block b (Nat.lt_of_lt_of_le bw TD2.out.bl.size) (fun e => by have := TD2.out.lo; simp at e; omega))).trans e1d; clear r2 g2))
                      go_wp2
                      go_roundg (m0 - (k + 1))
                      case measure => omega
                      case rel => exact ⟨k + 1, by omega, rfl, by go_num, NX⟩
                    · obtain rfl : m0 = k := by omega
                      clear qk
                      go_wp2_with fail
                      go_loopg [14] m1 (fun g iv wr => ∃ (k : Nat), k ≤ m1 ∧ g = m1 - k ∧ iv = .int .i64 k ∧ Hid (Re w p q (F1 (vs.drop k) ++ F2 ss) wr))
                      case atStart => exact ⟨0, Nat.zero_le _, rfl, rfl, by have := T.out; rw [show us.drop m0 = [] from List.drop_of_length_le (by rw [HU.out.len]; exact Nat.le_refl _)] at this; exact this⟩
                      case round =>
                        obtain ⟨k, hk, rfl, rfl, T⟩ := hrel
                        by_cases qk : k < m1
                        · have qk' : (k : Int) < (m1 : Int) := by omega
                          obtain ⟨b, o, rfl, e1, bw⟩ := ns HV.out T.out.bl qk
                          have fd : Hid (F1 (vs.drop k) ++ F2 ss = fI (vs.getD k 0) ++ (F1 (vs.drop (k + 1)) ++ F2 ss)) := by
                            show F1 (vs.drop k) ++ F2 ss = _
                            unfold F1
                            rw [flat_drop (by rw [HV.out.len]; exact qk) 0]; simp only [List.append_assoc]
                          have bv := bounds_i64 (HV.out.ok _ (getD_mem (show k < vs.length by rw [HV.out.len]; exact qk)))
                          have ee := rU_enc (zig_lt (show -9223372036854775808 ≤ vs.getD k 0 by omega) (show vs.getD k 0 < 9223372036854775808 by omega)) (F1 (vs.drop (k + 1)) ++ F2 ss)
                          have TD := T.out.drew
                          rw [fd.out] at TD
                          have e1d : wr.drew.cell? ⟨b, o + k, none⟩ = some (.int .i64 (vs.getD k 0)) := e1
                          have KR : Hid _ := RI_is (u := vs.getD k 0) (b' := false) (bs' := F1 (vs.drop (k + 1)) ++ F2 ss) TD.r (Nat.le_trans TD.le (by decide)) (by unfold fI; rw [ee.1, zag_zig]) (by unfold fI; rw [ee.2.2]; rfl) (by unfold fI; exact ee.2.1)
                          have hlen : Hid ((F1 (vs.drop (k + 1)) ++ F2 ss).length ≤ (fI (vs.getD k 0) ++ (F1 (vs.drop (k + 1)) ++ F2 ss)).length) := by show _ ≤ _; simp only [List.length_append]; omega
                          have TD2 : Hid _ := TD
                          clear TD fd
                          generalize vs.getD k 0 = x at *
                          clear ee bv
                          go_wp2_with fail
                          go_region_held3 (fun W => W.cell? ⟨b, o + k, none⟩ = some (.int .i64 x)) (with_reducible assumption) (first | (go_at_call 12; refine Calls.mono KR.out ?_; rintro e w2 ⟨rfl, r2, g2⟩; have NX : Hid _ := TD2.out.next r2 g2 hlen.out; have e2 : w2.cell? ⟨b, o + k, none⟩ = some (.int .i64 x) := (World.cell?_of_block (w := wr.drew) (a := ⟨b, o + k, none⟩) (g2.block b (Nat.lt_of_lt_of_le bw TD2.out.bl.size) (fun e => by have := TD2.out.lo; simp at e; omega))).trans e1d; clear r2 g2))
                          go_wp2
                          go_roundg (m1 - (k + 1))
                          case measure => omega
                          case rel => exact ⟨k + 1, by omega, rfl, by go_num, NX⟩
                        · obtain rfl : m1 = k := by omega
                          clear qk
                          go_wp2_with fail
                          go_loopg [15] m2 (fun g iv wr => ∃ (k : Nat), k ≤ m2 ∧ g = m2 - k ∧ iv = .int .i64 k ∧ Hid (Re w p q (F2 (ss.drop k)) wr))
                          case atStart => exact ⟨0, Nat.zero_le _, rfl, rfl, by have := T.out; rw [show vs.drop m1 = [] from List.drop_of_length_le (by rw [HV.out.len]; exact Nat.le_refl _)] at this; exact this⟩
                          case round =>
                            obtain ⟨k, hk, rfl, rfl, T⟩ := hrel
                            by_cases qk : k < m2
                            · have qk' : (k : Int) < (m2 : Int) := by omega
                              obtain ⟨b, o, rfl, e1, bw⟩ := ts HS.out T.out.bl qk
                              have fd : Hid (F2 (ss.drop k) = fS (ss.getD k ByteArray.empty) ++ (F2 (ss.drop (k + 1)))) := by
                                show F2 (ss.drop k) = _
                                unfold F2
                                rw [flat_drop (by rw [HS.out.len]; exact qk) ByteArray.empty]
                              have st100 := SZ.out k qk
                              obtain ⟨e_s, e_r, e_b⟩ := fS_read (ss.getD k ByteArray.empty) st100 (F2 (ss.drop (k + 1)))
                              have TD := T.out.drew
                              rw [fd.out] at TD
                              have e1d : wr.drew.cell? ⟨b, o + k, none⟩ = some (.string (ss.getD k ByteArray.empty)) := e1
                              have KR : Hid _ := RS_is (u := ss.getD k ByteArray.empty) (b' := false) (bs' := F2 (ss.drop (k + 1))) TD.r (Nat.le_trans TD.le (by decide)) e_s (by rw [e_b]; rfl) e_r
                              have hlen : Hid ((F2 (ss.drop (k + 1))).length ≤ (fS (ss.getD k ByteArray.empty) ++ (F2 (ss.drop (k + 1)))).length) := by show _ ≤ _; simp only [List.length_append]; omega
                              have TD2 : Hid _ := TD
                              clear TD fd
                              generalize ss.getD k ByteArray.empty = st at *
                              clear e_s e_r e_b
                              go_wp2_with fail
                              go_region_held3 (fun W => W.cell? ⟨b, o + k, none⟩ = some (.string st)) (with_reducible assumption) (first | (go_at_call 15; refine Calls.mono KR.out ?_; rintro e w2 ⟨rfl, r2, g2⟩; have NX : Hid _ := TD2.out.next r2 g2 hlen.out; have e2 : w2.cell? ⟨b, o + k, none⟩ = some (.string st) := (World.cell?_of_block (w := wr.drew) (a := ⟨b, o + k, none⟩) (g2.block b (Nat.lt_of_lt_of_le bw TD2.out.bl.size) (fun e => by have := TD2.out.lo; simp at e; omega))).trans e1d; clear r2 g2))
                              go_wp2
                              go_roundg (m2 - (k + 1))
                              case measure => omega
                              case rel => exact ⟨k + 1, by omega, rfl, by go_num, NX⟩
                            · obtain rfl : m2 = k := by omega
                              clear qk
                              have R7 : Hid (Re w p q [] wr) := by
                                have := T.out
                                rw [show ss.drop m2 = [] from List.drop_of_length_le (by rw [HS.out.len]; exact Nat.le_refl _)] at this
                                exact this
                              clear T
                              go_wp2_with (first | (go_at_call 14; refine (RLeft_any p q false [] wr R7.out.r).mono ?_; rintro e w9 ⟨rfl, rfl⟩) | (go_at_call 13; refine (RBad_any p q false [] wr R7.out.r).mono ?_; rintro e w9 ⟨rfl, rfl⟩))
                              go_ret
                              exact ⟨rfl, R7.out.bl⟩

theorem walk (w : World) (ht : Tab w) (a0 : Option Addr) (m0 k0 : Nat) (us : List Int) (hu : Nm .u64 w a0 m0 k0 us) (a1 : Option Addr) (m1 k1 : Nat) (vs : List Int) (hv : Nm .i64 w a1 m1 k1 vs) (a2 : Option Addr) (m2 k2 : Nat) (ss : List ByteArray) (hs : Tx w a2 m2 k2 ss) :
    Calls Tryd.prog 6 #[.slice a0 m0 k0, .slice a1 m1 k1, .slice a2 m2 k2] w fun e w' => e = .returned (.bool true) ∧ Below w.heap.size w w' := by
  by_cases h : 30 < m0
  · exact walk_0 w ht a0 a1 a2 m0 m1 m2 k0 k1 k2 h
  · by_cases h1 : 30 < m1
    · exact walk_1 w ht a0 a1 a2 m0 m1 m2 k0 k1 k2 (by omega) h1
    · by_cases h2 : 30 < m2
      · exact walk_2 w ht a0 a1 a2 m0 m1 m2 k0 k1 k2 (by omega) (by omega) h2
      · exact walk_main w ht a0 a1 a2 m0 m1 m2 k0 k1 k2 us vs ss hu hv hs (by omega) (by omega) (by omega)


theorem contract (H : Type) (enc : TypeId × Value → H) (W : World) (base : Nat) (args : Array Value) (ds gs : List (DataW H)) (before : List MemPlace)
    (hval : ∀ (j : Nat) t v, Tryd.f6.params[j]? = some t → args[j]? = some v → Value.okWide Tryd.prog W .any base t v)
    (hW : DataW.Whole enc Tryd.prog Tryd.f6.params.toList Rows.packBackSpec.vars false W args.toList ds gs before) (hL : laidMetH Tryd.prog Rows.packBackRow.laid W) :
    Calls Tryd.prog 6 args W fun e W' => ∃ v, e = .returned v ∧ Rows.packBackSpec.post enc Tryd.prog Tryd.f6 false true false false W args v W' := by
  have hW' := hW
  obtain ⟨p, q, hA0, hV, rfl, hfz, hnd⟩ := hW
  have hA : DataW.TrodAll enc Tryd.prog W 0 (fun _ => true) true Tryd.f6.params.toList args.toList ds p := hA0
  have hT : Tab W := tab_of hL
  rw [Tryd.params6] at hA hval
  obtain ⟨v0, vs0, d0, ds0, p0, q0, hargs, rfl, rfl, h0, r0⟩ := trodAll_cons hA
  obtain ⟨v1, vs1, d1, ds1, p1, q1, rfl, rfl, rfl, h1, r1⟩ := trodAll_cons r0
  obtain ⟨v2, vs2, d2, ds2, p2, q2, rfl, rfl, rfl, h2, r2⟩ := trodAll_cons r1
  obtain ⟨rfl, rfl, rfl⟩ := trodAll_nil r2
  obtain rfl : args = #[v0, v1, v2] := by cases args; simp_all
  obtain ⟨rfl, rfl⟩ := trodVars_none hV
  obtain ⟨a0, len0, cap0, rfl⟩ := okWide_slice Tryd.underlying42 (hval 0 42 v0 rfl rfl)
  have k0 := h0
  have lt0 : ∀ x ∈ p0, x.block < W.heap.size := by obtain ⟨m, hm⟩ := k0; exact DataW.trod_lt m _ _ _ hm
  obtain ⟨z0, w0⟩ : ∃ zs, Nm .u64 W a0 len0 cap0 zs := by
    obtain ⟨fuel, hf⟩ := h0
    exact nm_of Tryd.underlying42 Tryd.underlying26 (by kernel_rfl) hf
  obtain ⟨a1, len1, cap1, rfl⟩ := okWide_slice Tryd.underlying43 (hval 1 43 v1 rfl rfl)
  have k1 := h1
  have lt1 : ∀ x ∈ p1, x.block < W.heap.size := by obtain ⟨m, hm⟩ := k1; exact DataW.trod_lt m _ _ _ hm
  obtain ⟨z1, w1⟩ : ∃ zs, Nm .i64 W a1 len1 cap1 zs := by
    obtain ⟨fuel, hf⟩ := h1
    exact nm_of Tryd.underlying43 Tryd.underlying2 (by kernel_rfl) hf
  obtain ⟨a2, len2, cap2, rfl⟩ := okWide_slice Tryd.underlying44 (hval 2 44 v2 rfl rfl)
  have k2 := h2
  have lt2 : ∀ x ∈ p2, x.block < W.heap.size := by obtain ⟨m, hm⟩ := k2; exact DataW.trod_lt m _ _ _ hm
  obtain ⟨z2, w2⟩ : ∃ zs, Tx W a2 len2 cap2 zs := by
    obtain ⟨fuel, hf⟩ := h2
    exact tx_of Tryd.underlying44 Tryd.underlying9 (by kernel_rfl) hf
  clear hA0
  refine (walk W hT a0 len0 cap0 z0 w0 a1 len1 cap1 z1 w1 a2 len2 cap2 z2 w2).mono fun e W' ⟨he, bel⟩ => ?_
  subst he
  exact ⟨_, rfl, _, _, _, [], _, [], hW', trodAll_mk1 (shut_bool Tryd.underlying4 _), (trodAll_cons_mk (Below.trod laidOut (by kernel_rfl) (of_decide_eq_true (by kernel_rfl)) k0 bel lt0) (trodAll_cons_mk (Below.trod laidOut (by kernel_rfl) (of_decide_eq_true (by kernel_rfl)) k1 bel lt1) (trodAll_cons_mk (Below.trod laidOut (by kernel_rfl) (of_decide_eq_true (by kernel_rfl)) k2 bel lt2) trodAll_mk0))), rfl, bel.frame _, fun h => by cases h⟩

/-- A world for the witness: the table laid. -/
noncomputable def laidWorld (os : Os) : World :=
  { World.holding Tryd.prog os ⟨#[], #[], []⟩ with heap := (World.holding Tryd.prog os ⟨#[], #[], []⟩).heap.modify 0 fun
      | .cells _ t frozen => .cells (tabL.map (Value.int .u32)).toArray t frozen
      | o => o }
theorem laid_met (os : Os) : laidMet Tryd.prog Rows.packBackRow.laid ((laidWorld os).forCall (fun _ _ => 0) ⟨#[], #[.slice none 0 0, .slice none 0 0, .slice none 0 0], []⟩).memory :=
  laidMet_of_run' 8 (by kernel_rfl) (by kernel_rfl)
theorem reads (os : Os) {H : Type} (enc : TypeId × Value → H) : ∃ places, DataW.whole enc Tryd.prog ((laidWorld os).forCall (fun _ _ => 0) ⟨#[], #[.slice none 0 0, .slice none 0 0, .slice none 0 0], []⟩).memory Tryd.f6.params.toList Rows.packBackSpec.vars false (#[.slice none 0 0, .slice none 0 0, .slice none 0 0] : Array Value).toList 8 = some ([.nil, .nil, .nil], [], places) :=
  ⟨[], by kernel_rfl⟩

set_option maxRecDepth 100000 in
theorem lifted (os : Os) (started : os.Started) (H : Type) (enc : TypeId × Value → H) (F : Stop.Interp) :
    ReturnsInHanded {} Tryd.checked os 6 .any ((OpenSpec.ofChange Rows.packBackSpec).preRow enc Tryd.prog Tryd.f6 Rows.packBackRow.domain false Rows.packBackRow.laid) (((OpenSpec.ofChange Rows.packBackSpec).at F).post enc Tryd.prog Tryd.f6 false true false false) := by
  obtain ⟨places, hx⟩ := reads os enc
  refine returnsInHanded_of_row (C := Tryd.checked) (s := OpenSpec.ofChange Rows.packBackSpec) own started (by kernel_rfl) Tryd.func6
    (witness_row_at (enc := enc) (C := Tryd.checked) false (laidWorld os) #[.slice none 0 0, .slice none 0 0, .slice none 0 0] rfl (by kernel_rfl) (by kernel_rfl) (by kernel_rfl)
      (OpenSpec.preRow_of_cond 8 hx (by kernel_rfl) (fun k hk => by cases hk) (by kernel_rfl) (laid_met os))) ?_
  intro W base args ds gs before hval hW _ _ _ hL _ _
  exact contract H enc W base args ds gs before hval hW hL

theorem said : Rows.PackBackSaid :=
  OpenClaim.holds_of_cond 6 Tryd.f6 rfl rfl rfl rfl rfl rfl rfl ⟨rfl, rfl, rfl, rfl, rfl⟩ rfl rfl rfl rfl rfl (by kernel_rfl) Tryd.func6 (by kernel_rfl)
    (of_decide_eq_true (by kernel_rfl)) (by unfold Func.isWrapper; first | (rw [if_pos (by decide +kernel)]; kernel_rfl) | (rw [if_neg (by decide +kernel)]; exact ⟨rfl, rfl⟩))
    (fun os started H enc _ F => by rw [OpenClaim.pre_eq_preRow]; exact lifted os started H enc F)

theorem plain (f : FuncId) (fn : Func) (hf : Tryd.pinned.checked.prog.funcNamed "publican/publicanlaw3.PackBack" = some f) (hfn : Tryd.pinned.checked.prog.funcs[f]? = some fn) :
    false = Tryd.pinned.checked.prog.looks [] ∧ ∀ (j : Nat) t, fn.params[j]? = some t → Tryd.pinned.checked.prog.wantsStandIn t = false := by
  obtain rfl : f = 6 := Option.some.inj ((show Tryd.prog.funcNamed "publican/publicanlaw3.PackBack" = some 6 by kernel_rfl).symm.trans hf) |>.symm
  obtain rfl : fn = Tryd.f6 := (Option.some.inj (Tryd.func6.symm.trans hfn)).symm
  refine ⟨by kernel_rfl, fun j t ht => ?_⟩
  rw [Tryd.params6] at ht
  have hm : t = 42 ∨ t = 43 ∨ t = 44 := by have := Array.mem_of_getElem? ht; simp at this; omega
  rcases hm with rfl | rfl | rfl
  · exact (show Tryd.prog.wantsStandIn 42 = false by kernel_rfl)
  · exact (show Tryd.prog.wantsStandIn 43 = false by kernel_rfl)
  · exact (show Tryd.prog.wantsStandIn 44 = false by kernel_rfl)

theorem card : Rows.PackBackCardSaid :=
  Claim7.holds_tied_plain_at .later [] _ _ _ _ said (fun _ h => by cases h) (by kernel_rfl) (fun _ h => by cases h) packBack_row_tie rfl ⟨rfl, rfl⟩ (by kernel_rfl) rfl plain (by kernel_rfl)

end Go.Proofs.YtgjimoihbbogdaaDoor.packBack
namespace Go.Proofs.YtgjimoihbbogdaaDoor

theorem PackBack_holds : Rows.PackBackCardSaid := packBack.card

end Go.Proofs.YtgjimoihbbogdaaDoor
