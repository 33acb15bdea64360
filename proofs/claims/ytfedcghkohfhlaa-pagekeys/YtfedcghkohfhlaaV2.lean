/- The walk over package page: Decode, a leaf. -/
import Derived.Test.YtfedcghkohfhlaaV1
namespace Go.Proofs.Ytfedcghkohfhlaa
open Go.RowKit
set_option linter.unusedVariables false
set_option linter.unusedSimpArgs false

theorem rd_new2 {w w1 : World} {a : Option Addr} {cap : Nat} {bs : List Int} (h0 : 0 < w.heap.size) (hb : By w1 a bs.length cap bs) (hs : ∀ x, a = some x → w.heap.size ≤ x.block ∧ x.block < w1.heap.size) (hh : a = none ∨ ∃ g, a = some ⟨g, 0, none⟩) (bl : Below w.heap.size w w1) :
    ∃ q, Rd (w1.alloc (.cells #[.slice a bs.length cap, .bool false] 80)) w1.heap.size q false bs ∧ q < w1.heap.size ∧ (q = 0 ∨ w.heap.size ≤ q) := by
  have hw := bl.size
  have B := hb.below (allocB w1 (.cells #[.slice a bs.length cap, .bool false] 80))
  rcases hh with rfl | ⟨g, rfl⟩
  · exact ⟨0, ⟨⟨_, _, _, by simp, B, Or.inl rfl⟩, by simp, fun o => by simp, by omega⟩, by omega, Or.inl rfl⟩
  · have := (hs _ rfl).2
    have k := (hs _ rfl).1
    exact ⟨g, ⟨⟨_, _, _, by simp, B, Or.inr ⟨0, rfl⟩⟩, by simp, fun o => by simp, by simp at this; omega⟩, by simpa using this, Or.inr (by simpa using k)⟩
/-- A Reader is returned. -/
def NewR2 (w w' : World) (e : Ending) (bs : List Int) : Prop := ∃ p q, e = .returned (.pointer (some ⟨p, 0, none⟩)) ∧ Rd w' p q false bs ∧ w.heap.size ≤ p ∧ p < w'.heap.size ∧ q < w'.heap.size ∧ (q = 0 ∨ w.heap.size ≤ q) ∧ Below w.heap.size w w'
set_option maxHeartbeats 1000000 in
theorem Read_more (a : Option Addr) (n cap : Nat) (bs : List Int) (w : World) (h : By w a n cap bs) (hn : n ≤ 100000) (h0 : 0 < w.heap.size) :
    Calls Try.prog 28 #[.slice a n cap] w fun e w' => NewR2 w w' e bs := by
  have H : Hid _ := h
  clear h
  go_enter Try.func28, Try.ntmps28
  go_wp2_with fail
  refine (clone_any a n cap bs w H.out hn).mono ?_
  rintro e w1 ⟨⟨v1, rfl, o1⟩, b1⟩
  obtain ⟨a1, cap1, rfl, y1, s1, hh1⟩ := o1.by
  have X : Hid _ := rd_new2 h0 y1 s1 hh1 b1
  clear o1 y1 s1 hh1
  go_wp2
  go_ret
  obtain ⟨q, r, hq, hz⟩ := X.out
  exact ⟨w1.heap.size, q, rfl, r, b1.size, by simp, by simp; omega, hz, nextB b1 (allocB w1 _)⟩

/-- What Decode answers. -/
structure DecP (w w' : World) (e : Ending) (o : Option Pg) : Prop where
  no : o = none → e = .returned (.tuple #[.agg #[.bool false, .slice none 0 0, .slice none 0 0, .slice none 0 0], .int .i64 3])
  yes : ∀ p, o = some p → ∃ v, e = .returned (.tuple #[v, .int .i64 0]) ∧ Pv w' v p
  bel : Below w.heap.size w w'
theorem DecP.mk0 {w w' : World} {e : Ending} {o : Option Pg} (h : o = none) (he : e = .returned (.tuple #[.agg #[.bool false, .slice none 0 0, .slice none 0 0, .slice none 0 0], .int .i64 3])) (b : Below w.heap.size w w') : DecP w w' e o :=
  ⟨fun _ => he, fun p hp => (by rw [h] at hp; cases hp), b⟩
theorem DecP.mk1 {w w' : World} {e : Ending} {o : Option Pg} {p : Pg} {v : Value} (h : o = some p) (he : e = .returned (.tuple #[v, .int .i64 0])) (q : Pv w' v p) (b : Below w.heap.size w w') : DecP w w' e o :=
  ⟨fun h' => (by rw [h] at h'; cases h'), fun p' hp => (by rw [h] at hp; injection hp with hp; subst hp; exact ⟨v, he, q⟩), b⟩

set_option maxRecDepth 100000 in
set_option maxHeartbeats 4000000 in
theorem Decode_none (a : Option Addr) (n cap : Nat) (bs : List Int) (w : World) (h : By w a n cap bs) (hn : n ≤ 80000) (hd : bs = [] ∨ ∃ c r, bs = c :: r ∧ c ≠ 76 ∧ c ≠ 66) :
    Calls Try.prog 10 #[.slice a n cap] w fun e w' => DecP w w' e (dcd bs) := by
  have hl := h.len
  rcases hd with rfl | ⟨c, r, rfl, c1, c2⟩
  · obtain rfl : n = 0 := by simpa using hl.symm
    have D : Hid (dcd [] = none) := rfl
    clear h
    go_enter Try.func10, Try.ntmps10
    go_wp2
    exact bodyPost_ret (v := .tuple #[.agg #[.bool false, .slice none 0 0, .slice none 0 0, .slice none 0 0], .int .i64 3]) (by simp [results, Try.results10, go_sem]) rfl (DecP.mk0 D.out rfl (allocB w _))
  · have n0 : 0 < n := by simp at hl; omega
    obtain ⟨b, o, h1, h2⟩ := h.cell
    obtain rfl := h1 n0
    have e1 := h2 0 n0
    simp only [List.getD_cons_zero, Nat.add_zero] at e1
    have D : Hid (dcd (c :: r) = none) := dcd_no c1 c2
    have n0' : ((n : Int) == 0) = false := beq_eq_false_iff_ne.2 (by omega)
    have n1' : (0 : Int) < (n : Int) := by omega
    have q1 : (c != 76) = true := by simpa using c1
    have q2 : (c != 66) = true := by simpa using c2
    have hf := h.fits
    have bl : b < w.heap.size := World.block_lt_of_cell? _ _ e1
    clear h h1 h2 hl
    go_enter Try.func10, Try.ntmps10
    go_wp2
    exact bodyPost_ret (v := .tuple #[.agg #[.bool false, .slice none 0 0, .slice none 0 0, .slice none 0 0], .int .i64 3]) (by simp [results, Try.results10, go_sem]) rfl (DecP.mk0 D.out rfl (allocB w _))

end Go.Proofs.Ytfedcghkohfhlaa
