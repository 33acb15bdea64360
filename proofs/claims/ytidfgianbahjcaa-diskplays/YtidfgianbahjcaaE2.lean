/- For DiskKeeps: the disk's state behind k of its eight writes. -/
import Derived.Test.YtidfgianbahjcaaE1
namespace Go.Proofs.Ytidfgianbahjcaa
open Go.RowKit
set_option linter.unusedVariables false

theorem rem_odd (h : Int) : (h.tmod 2 != 0) = odd h := by
  unfold odd
  have e : h.tmod 2 = if 0 ≤ h then h % 2 else -((-h) % 2) := by
    split
    · exact Int.tmod_eq_emod_of_nonneg (by assumption)
    · have := Int.neg_tmod (-h) 2
      rw [Int.neg_neg] at this
      rw [this, Int.tmod_eq_emod_of_nonneg (by omega)]
  rw [e]
  rw [Bool.eq_iff_iff]
  simp only [bne_iff_ne, ne_eq, decide_eq_true_eq]
  split <;> omega
theorem rem_no {h : Int} (e : odd h = false) : h.tmod 2 = 0 := by
  have := rem_odd h
  rw [e] at this
  simpa using this

def kst (N : Nat) (o : Bool) (b : List Int) (k : Nat) : St :=
  ⟨fun j => if j < k ∧ (j + 1 < N ∨ (j + 1 = N ∧ o = true)) then pad b else zero64, decide (k < N), min k (N - 1), 1, N - k, o⟩
theorem kst_zero (N : Nat) (o : Bool) (b : List Int) (h : 1 ≤ N) : fresh.cutTo (N : Int) o = kst N o b 0 := by
  unfold fresh St.cutTo kst
  simp only [Int.toNat_natCast, Nat.zero_min, Nat.sub_zero]
  have e : decide (0 < N) = true := decide_eq_true (by omega)
  rw [e]
  congr 1
theorem St.eq {s t : St} (h1 : ∀ j, s.sec j = t.sec j) (h2 : s.on = t.on) (h3 : s.writes = t.writes) (h4 : s.lives = t.lives) (h5 : s.left = t.left) (h6 : s.late = t.late) : s = t := by
  cases s; cases t; simp at *; exact ⟨funext h1, h2, h3, h4, h5, h6⟩
theorem has8 {k : Nat} (h : k < 8) : has 8 (k : Int) = true := decide_eq_true ⟨by omega, by omega⟩
theorem kst_well (N : Nat) (o : Bool) (b : List Int) (k : Nat) (hb : b.length ≤ 64) (hk : k < 8) (h : k + 1 < N) : wE 8 (kst N o b k) k b = 0 ∧ wS 8 (kst N o b k) k b = kst N o b (k + 1) := by
  obtain ⟨e1, e2⟩ := wE_well (n := 8) (s := kst N o b k) (i := k) (b := b) ⟨has8 hk, hb⟩ (decide_eq_true (by omega)) (by show N - k ≠ 1; omega)
  refine ⟨e1, e2.trans (St.eq (fun j => ?_) ?_ ?_ rfl ?_ rfl)⟩
  · show upd (kst N o b k).sec (k : Int).toNat (pad b) j = (kst N o b (k + 1)).sec j
    simp only [Int.toNat_natCast, upd, kst]
    by_cases hj : j = k
    · subst hj; rw [if_pos rfl, if_pos ⟨by omega, Or.inl h⟩]
    · rw [if_neg hj]
      by_cases hl : j < k
      · rw [if_pos ⟨hl, Or.inl (by omega)⟩, if_pos ⟨by omega, Or.inl (by omega)⟩]
      · rw [if_neg (fun x => hl x.1), if_neg (fun x => hl (by have := x.1; omega))]
  · show decide (k < N) = decide (k + 1 < N)
    rw [decide_eq_true h, decide_eq_true (by omega)]
  · show min k (N - 1) + 1 = min (k + 1) (N - 1); omega
  · show N - k - 1 = N - (k + 1); omega
theorem kst_cut (N : Nat) (o : Bool) (b : List Int) (k : Nat) (hb : b.length ≤ 64) (hk : k < 8) (h : k + 1 = N) : wE 8 (kst N o b k) k b = 4 ∧ wS 8 (kst N o b k) k b = kst N o b (k + 1) := by
  obtain ⟨e1, e2⟩ := wE_cut (n := 8) (s := kst N o b k) (i := k) (b := b) ⟨has8 hk, hb⟩ (decide_eq_true (by omega)) (by show N - k = 1; omega)
  refine ⟨e1, e2.trans ?_⟩
  cases o with
  | true =>
    refine St.eq (fun j => ?_) ?_ ?_ rfl ?_ rfl
    · show upd (kst N true b k).sec (k : Int).toNat (pad b) j = (kst N true b (k + 1)).sec j
      simp only [Int.toNat_natCast, upd, kst]
      by_cases hj : j = k
      · subst hj; rw [if_pos rfl, if_pos ⟨by omega, Or.inr ⟨h, trivial⟩⟩]
      · rw [if_neg hj]
        by_cases hl : j < k
        · rw [if_pos ⟨hl, Or.inl (by omega)⟩, if_pos ⟨by omega, Or.inl (by omega)⟩]
        · rw [if_neg (fun x => hl x.1), if_neg (fun x => hl (by have := x.1; omega))]
    · show false = decide (k + 1 < N)
      rw [decide_eq_false (by omega)]
    · show min k (N - 1) = min (k + 1) (N - 1); omega
    · show 0 = N - (k + 1); omega
  | false =>
    refine St.eq (fun j => ?_) ?_ ?_ rfl ?_ rfl
    · show (kst N false b k).sec j = (kst N false b (k + 1)).sec j
      simp only [kst]
      by_cases hl : j < k
      · rw [if_pos ⟨hl, Or.inl (by omega)⟩, if_pos ⟨by omega, Or.inl (by omega)⟩]
      · rw [if_neg (fun x => hl x.1), if_neg (fun x => by rcases x.2 with y | y; omega; exact Bool.noConfusion y.2)]
    · show false = decide (k + 1 < N)
      rw [decide_eq_false (by omega)]
    · show min k (N - 1) = min (k + 1) (N - 1); omega
    · show 0 = N - (k + 1); omega
theorem kst_off (N : Nat) (o : Bool) (b : List Int) (k : Nat) (hb : b.length ≤ 64) (hk : k < 8) (h : N ≤ k) : wE 8 (kst N o b k) k b = 4 ∧ wS 8 (kst N o b k) k b = kst N o b (k + 1) := by
  obtain ⟨e1, e2⟩ := wE_off (n := 8) (s := kst N o b k) (i := k) (b := b) ⟨has8 hk, hb⟩ (decide_eq_false (by omega))
  refine ⟨e1, e2.trans (St.eq (fun j => ?_) ?_ ?_ rfl ?_ rfl)⟩
  · simp only [kst]
    by_cases hl : j < k
    · by_cases c : j + 1 < N ∨ (j + 1 = N ∧ o = true)
      · rw [if_pos ⟨hl, c⟩, if_pos ⟨by omega, c⟩]
      · rw [if_neg (fun x => c x.2), if_neg (fun x => c x.2)]
    · rw [if_neg (fun x => hl x.1), if_neg (fun x => by rcases x.2 with y | y; omega; have := y.1; omega)]
  · show decide (k < N) = decide (k + 1 < N)
    rw [decide_eq_false (by omega), decide_eq_false (by omega)]
  · show min k (N - 1) = min (k + 1) (N - 1); omega
  · show N - k = N - (k + 1); omega
theorem kst_writes (N : Nat) (o : Bool) (b : List Int) (k : Nat) (h : k ≤ 8) : (kst N o b k).writes ≤ 1000000 := by show min k (N - 1) ≤ 1000000; omega
/-- What each sector holds in the end. -/
theorem kst_yes {N : Nat} {o : Bool} {b : List Int} {j : Nat} (hj : j < 8) (h : j + 1 < N ∨ (j + 1 = N ∧ o = true)) : (kst N o b 8).onAgain.sec j = pad b := by
  show (if j < 8 ∧ (j + 1 < N ∨ (j + 1 = N ∧ o = true)) then pad b else zero64) = pad b
  rw [if_pos ⟨hj, h⟩]
theorem kst_no {N : Nat} {o : Bool} {b : List Int} {j : Nat} (h : ¬ (j + 1 < N ∨ (j + 1 = N ∧ o = true))) : (kst N o b 8).onAgain.sec j = zero64 := by
  show (if j < 8 ∧ (j + 1 < N ∨ (j + 1 = N ∧ o = true)) then pad b else zero64) = zero64
  rw [if_neg (fun x => h x.2)]

/-- A disk of the law's own, nothing turned that was there before. -/
structure InvD (w0 : World) (p q n : Nat) (s : St) (wr : World) : Prop where
  d : Dk wr p q n s
  b : Below w0.heap.size w0 wr
  lp : w0.heap.size ≤ p
  lq : w0.heap.size ≤ q
theorem InvD.gr {w0 wr w1 : World} {p q n : Nat} {s s' : St} (h : InvD w0 p q n s wr) (d : Dk w1 p q n s') (g : Gr p q wr w1) : InvD w0 p q n s' w1 :=
  ⟨d, Below.gr h.b g h.b.size h.lp h.lq, h.lp, h.lq⟩
theorem InvD.below {w0 wr w1 : World} {p q n : Nat} {s : St} (h : InvD w0 p q n s wr) (g : Below wr.heap.size wr w1) : InvD w0 p q n s w1 :=
  ⟨h.d.below g, nextB h.b g, h.lp, h.lq⟩
theorem InvD.set {w0 wr : World} {p q n g o : Nat} {s : St} {v : Value} (h : InvD w0 p q n s wr) (h1 : p ≠ g) (h2 : q ≠ g) (h3 : w0.heap.size ≤ g) : InvD w0 p q n s (wr.setCell ⟨g, o, none⟩ v) :=
  ⟨h.d.kept (Below.heap_setCell _ _ _ _ h1) (Below.heap_setCell _ _ _ _ h2), h.b.setCell h3 _, h.lp, h.lq⟩
theorem InvD.new {w0 wr w1 : World} {p q n : Nat} {s : St} (h : Below w0.heap.size w0 wr) (d : Dk w1 p q n s) (b : Below wr.heap.size wr w1) (hp : wr.heap.size ≤ p) (hq : wr.heap.size ≤ q) : InvD w0 p q n s w1 :=
  ⟨d, nextB h b, Nat.le_trans h.size hp, Nat.le_trans h.size hq⟩
/-- Bytes that were there before lie in none of its blocks. -/
theorem InvD.apart {w0 wr : World} {p q n : Nat} {s : St} (h : InvD w0 p q n s wr) {a : Option Addr} {m c : Nat} {b : List Int} (y : By w0 a m c b) : 0 < m → ∀ x, a = some x → x.block ≠ p ∧ x.block ≠ q := fun hm x hx => by
  have := y.old hm x hx
  have := h.lp
  have := h.lq
  exact ⟨by omega, by omega⟩

/-- What a read leaves: new bytes of one's own. -/
theorem read_facts {w wr w2 : World} {p q n : Nat} {s : St} {l : List Int} (T : InvD w p q n s wr) (hw : wr.alloc (.cells (vals l).toArray 5) = w2) (hl : l.length = 64 ∧ Bys l) :
    InvD w p q n s w2 ∧ By w2 (some ⟨wr.heap.size, 0, none⟩) 64 64 l ∧ w2.frozen? ⟨wr.heap.size, 0, none⟩ = false ∧ w2.heap.size = wr.heap.size + 1 := by
  subst hw
  have y := by_const wr l hl.2 (by omega) (0, 0) 5
  rw [hl.1] at y
  exact ⟨T.below (allocB _ _), y, frozen_of_row _ _ _ _ _ (heap_alloc_last wr _), by simp⟩

end Go.Proofs.Ytidfgianbahjcaa
