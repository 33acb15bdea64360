/- Signs: HasPrefix, the table of signs, which sign stands at a place. -/
import Derived.Test.YtobolipjgkabhaaDoorLa
namespace Go.Proofs.YtobolipjgkabhaaDoor
open Go.RowKit
set_option linter.unusedVariables false
set_option linter.unusedSimpArgs false

def hpB (l p : List UInt8) : Bool := l.take p.length == p
theorem hp_is (s p : ByteArray) (h : p.size ≤ s.size) : ((s.extract 0 p.size).toList == p.toList) = hpB s.data.toList p.data.toList := by
  rw [ByteArray.toList_eq, ByteArray.toList_eq, ext_data]
  rfl
theorem hp_no (s p : ByteArray) (h : ¬ p.size ≤ s.size) : hpB s.data.toList p.data.toList = false := by
  unfold hpB
  rw [beq_eq_false_iff_ne]
  intro e
  have := congrArg List.length e
  simp at this
  exact h (by have : min p.size s.size = p.size := by simpa using this
              omega)
theorem hasPrefix2_any (s p : ByteArray) (w : World) (hs : s.size < 9000000000000000000) (hp : p.size < 9000000000000000000) :
    Calls Tryd.prog 29 #[.string s, .string p] w fun e w' => e = .returned (.bool (hpB s.data.toList p.data.toList)) ∧ w = w' := by
  by_cases h : p.size ≤ s.size
  · have E := hp_is s p h
    have h' : (p.size : Int) ≤ (s.size : Int) := by omega
    go_enter Tryd.func29, Tryd.ntmps29
    go_wp2_with fail
    go_ret
    exact ⟨by rw [← E]; rfl, rfl⟩
  · have E := hp_no s p h
    have h' : ¬ (p.size : Int) ≤ (s.size : Int) := by omega
    go_enter Tryd.func29, Tryd.ntmps29
    go_wp2_with fail
    go_ret
    exact ⟨rfl, rfl⟩
theorem hasPrefix_any (s p : ByteArray) (w : World) (hs : s.size < 9000000000000000000) (hp : p.size < 9000000000000000000) :
    Calls Tryd.prog 16 #[.string s, .string p] w fun e w' => e = .returned (.bool (hpB s.data.toList p.data.toList)) ∧ w = w' := by
  go_enter Tryd.func16, Tryd.ntmps16
  go_wp2_with (go_at_call 29; refine (hasPrefix2_any _ _ _ hs hp).mono ?_; rintro e w5 ⟨rfl, rfl⟩)
  go_ret
  exact ⟨rfl, rfl⟩

def sgl : List (List UInt8) := [[60, 61], [62, 61], [61, 61], [33, 61], [40], [41], [123], [125], [91], [93], [44], [59], [58], [61], [43], [45], [42], [47], [60], [62]]
def sg (k : Nat) : List UInt8 := sgl.getD k []
/-- The table lies in its place. -/
def Tab (w : World) : Prop := 0 < w.heap.size ∧ ∀ i, i < 20 → w.cell? ⟨0, i, none⟩ = some (.string (tx (sg i)))
theorem Tab.below {w w' : World} {B : Nat} (h : Tab w) (hb : Below B w w') (hB : 0 < B) : Tab w' :=
  ⟨Nat.lt_of_lt_of_le h.1 hb.size, fun i hi => by rw [hb.cell (p := ⟨0, i, none⟩) hB]; exact h.2 i hi⟩
theorem Tab.next {w w' : World} (h : Tab w) (hb : Below w.heap.size w w') : Tab w' := h.below hb h.1

theorem hp_1 (l : List UInt8) (p : UInt8) (hp : p ≠ 0) : hpB l [p] = decide (hd l = p.toNat) := by
  cases l with
  | nil =>
    have : (0 : Nat) ≠ p.toNat := fun e => hp (UInt8.toNat_inj.1 (by rw [← e]; rfl))
    show false = decide (0 = p.toNat)
    rw [decide_eq_false this]
  | cons c l =>
    show ([c] == [p]) = decide (c.toNat = p.toNat)
    rw [Bool.eq_iff_iff]
    simp [UInt8.toNat_inj]
theorem hp_2 (l : List UInt8) (p q : UInt8) (hp : p ≠ 0) (hq : q ≠ 0) : hpB l [p, q] = (decide (hd l = p.toNat) && decide (hd (l.drop 1) = q.toNat)) := by
  cases l with
  | nil =>
    have : (0 : Nat) ≠ p.toNat := fun e => hp (UInt8.toNat_inj.1 (by rw [← e]; rfl))
    show false = (decide (0 = p.toNat) && _)
    rw [decide_eq_false this]
    rfl
  | cons c l =>
    cases l with
    | nil =>
      have : (0 : Nat) ≠ q.toNat := fun e => hq (UInt8.toNat_inj.1 (by rw [← e]; rfl))
      show ([c] == [p, q]) = (_ && decide (0 = q.toNat))
      rw [decide_eq_false this]
      simp
    | cons d l =>
      show ([c, d] == [p, q]) = (decide (c.toNat = p.toNat) && decide (d.toNat = q.toNat))
      rw [Bool.eq_iff_iff]
      simp [UInt8.toNat_inj]
theorem sg_two (l : List UInt8) : (∀ j, j < 4 → hpB l (sg j) = false) → two2 (hd l) (hd (l.drop 1)) = false := by
  intro h
  have h0 := h 0 (by decide)
  have h1 := h 1 (by decide)
  have h2 := h 2 (by decide)
  have h3 := h 3 (by decide)
  change hpB l [60, 61] = false at h0
  change hpB l [62, 61] = false at h1
  change hpB l [61, 61] = false at h2
  change hpB l [33, 61] = false at h3
  rw [hp_2 _ _ _ (by decide) (by decide)] at h0 h1 h2 h3
  change (decide (hd l = 60) && decide (hd (l.drop 1) = 61)) = false at h0
  change (decide (hd l = 62) && decide (hd (l.drop 1) = 61)) = false at h1
  change (decide (hd l = 61) && decide (hd (l.drop 1) = 61)) = false at h2
  change (decide (hd l = 33) && decide (hd (l.drop 1) = 61)) = false at h3
  unfold two2
  generalize hd l = a at *
  generalize hd (l.drop 1) = b at *
  simp at *
  intro hb
  refine ⟨⟨⟨fun e => h0 e hb, fun e => h1 e hb⟩, fun e => h2 e hb⟩, fun e => h3 e hb⟩
theorem sg_at {l : List UInt8} {k : Nat} (hk : k < 20) (hn : ∀ j, j < k → hpB l (sg j) = false) (hy : hpB l (sg k) = true) : sgnN l = (sg k).length := by
  rcases Nat.lt_or_ge k 4 with c | c
  · have e : k = 0 ∨ k = 1 ∨ k = 2 ∨ k = 3 := by omega
    unfold sgnN
    rcases e with rfl | rfl | rfl | rfl
    · change hpB l [60, 61] = true at hy
      rw [hp_2 _ _ _ (by decide) (by decide)] at hy
      change (decide (hd l = 60) && decide (hd (l.drop 1) = 61)) = true at hy
      simp at hy
      rw [show hd (List.drop 1 l) = 61 by simpa using hy.2, hy.1]; rfl
    · change hpB l [62, 61] = true at hy
      rw [hp_2 _ _ _ (by decide) (by decide)] at hy
      change (decide (hd l = 62) && decide (hd (l.drop 1) = 61)) = true at hy
      simp at hy
      rw [show hd (List.drop 1 l) = 61 by simpa using hy.2, hy.1]; rfl
    · change hpB l [61, 61] = true at hy
      rw [hp_2 _ _ _ (by decide) (by decide)] at hy
      change (decide (hd l = 61) && decide (hd (l.drop 1) = 61)) = true at hy
      simp at hy
      rw [show hd (List.drop 1 l) = 61 by simpa using hy.2, hy.1]; rfl
    · change hpB l [33, 61] = true at hy
      rw [hp_2 _ _ _ (by decide) (by decide)] at hy
      change (decide (hd l = 33) && decide (hd (l.drop 1) = 61)) = true at hy
      simp at hy
      rw [show hd (List.drop 1 l) = 61 by simpa using hy.2, hy.1]; rfl
  · have h2 := sg_two l (fun j hj => hn j (by omega))
    unfold sgnN
    rw [h2]
    simp only [Bool.false_eq_true, if_false]
    have key : ∀ i : Fin 20, 4 ≤ i.val → ∃ p : UInt8, sg i.val = [p] ∧ p ≠ 0 ∧ one1 p.toNat = true := by
      intro i hi
      refine ⟨(sg i.val).headD 0, ?_⟩
      revert i
      decide
    obtain ⟨p, e1, e2, e3⟩ := key ⟨k, hk⟩ c
    rw [e1, hp_1 _ _ e2] at hy
    rw [of_decide_eq_true hy, e3, e1]
    rfl
theorem sg_none {l : List UInt8} (hn : ∀ j, j < 20 → hpB l (sg j) = false) : sgnN l = 0 := by
  have h2 := sg_two l (fun j hj => hn j (by omega))
  unfold sgnN
  rw [h2]
  simp only [Bool.false_eq_true, if_false]
  have key : ∀ i : Fin 20, 4 ≤ i.val → sg i.val = [(sg i.val).headD 0] ∧ (sg i.val).headD 0 ≠ 0 := by decide
  have ne : ∀ i : Fin 20, 4 ≤ i.val → hd l ≠ ((sg i.val).headD 0).toNat := by
    intro i hi e
    have h := hn i.val i.isLt
    obtain ⟨k1, k2⟩ := key i hi
    rw [k1, hp_1 _ _ k2] at h
    exact of_decide_eq_false h e
  rw [if_neg ?_]
  intro h
  unfold one1 at h
  simp only [Bool.or_eq_true, beq_iff_eq] at h
  have q : ∀ i : Fin 20, 4 ≤ i.val → hd l = ((sg i.val).headD 0).toNat → False := fun i hi => ne i hi
  rcases h with ((((((((((((((h | h) | h) | h) | h) | h) | h) | h) | h) | h) | h) | h) | h) | h) | h) | h
  · exact q ⟨4, by decide⟩ (by decide) h
  · exact q ⟨5, by decide⟩ (by decide) h
  · exact q ⟨6, by decide⟩ (by decide) h
  · exact q ⟨7, by decide⟩ (by decide) h
  · exact q ⟨8, by decide⟩ (by decide) h
  · exact q ⟨9, by decide⟩ (by decide) h
  · exact q ⟨10, by decide⟩ (by decide) h
  · exact q ⟨11, by decide⟩ (by decide) h
  · exact q ⟨12, by decide⟩ (by decide) h
  · exact q ⟨13, by decide⟩ (by decide) h
  · exact q ⟨14, by decide⟩ (by decide) h
  · exact q ⟨15, by decide⟩ (by decide) h
  · exact q ⟨16, by decide⟩ (by decide) h
  · exact q ⟨17, by decide⟩ (by decide) h
  · exact q ⟨18, by decide⟩ (by decide) h
  · exact q ⟨19, by decide⟩ (by decide) h
end Go.Proofs.YtobolipjgkabhaaDoor
