/- Plain mathematics of pages, on: where a leaf is split. -/
import Derived.Test.YtfedcghkohfhlaaPc
namespace Go.Proofs.Ytfedcghkohfhlaa
open Go.RowKit
set_option linter.unusedVariables false
set_option linter.unusedSimpArgs false

def sumL : List Nat → Nat
  | [] => 0
  | x :: l => x + sumL l
theorem sumL_app : ∀ a b : List Nat, sumL (a ++ b) = sumL a + sumL b
  | [], b => by simp [sumL]
  | x :: a, b => by simp only [List.cons_append, sumL, sumL_app a b]; omega
theorem sumL_split (l : List Nat) (k : Nat) : sumL (l.take k) + sumL (l.drop k) = sumL l := by
  rw [← sumL_app, List.take_append_drop]
theorem sumL_snoc {l : List Nat} {k : Nat} (h : k < l.length) : sumL (l.take (k + 1)) = sumL (l.take k) + l.getD k 0 := by
  rw [take_snoc h 0, sumL_app]; simp [sumL]
theorem sumL_at {l : List Nat} (k : Nat) : l.getD k 0 ≤ sumL l := by
  by_cases h : k < l.length
  · have a := sumL_snoc h
    have b := sumL_split l (k + 1)
    omega
  · have : l.getD k 0 = 0 := by simp [List.getD, show l.length ≤ k by omega]
    omega
/-- The sizes of a leaf's items. -/
def szs : List ByteArray → List ByteArray → List Nat
  | k :: ks, v :: vs => (encS k ++ encS v).length :: szs ks vs
  | _, _ => []
theorem szs_len : ∀ ks vs : List ByteArray, vs.length = ks.length → (szs ks vs).length = ks.length
  | [], [], _ => rfl
  | [], _ :: _, h => by simp at h
  | _ :: _, [], h => by simp at h
  | k :: ks, v :: vs, h => by simp [szs, szs_len ks vs (by simpa using h)]
theorem szs_sum : ∀ ks vs : List ByteArray, (encI ks vs).length = sumL (szs ks vs)
  | [], _ => by simp [encI, szs, sumL]
  | _ :: _, [] => by simp [encI, szs, sumL]
  | k :: ks, v :: vs => by
    simp only [encI, szs, sumL, List.length_append, szs_sum ks vs]
theorem szs_take : ∀ (ks vs : List ByteArray) (n : Nat), szs (ks.take n) (vs.take n) = (szs ks vs).take n
  | [], vs, n => by cases n <;> simp [szs]
  | k :: ks, [], n => by cases n <;> simp [szs]
  | k :: ks, v :: vs, 0 => by simp [szs]
  | k :: ks, v :: vs, n + 1 => by simp [szs, szs_take ks vs n]
theorem szs_drop : ∀ (ks vs : List ByteArray) (n : Nat), szs (ks.drop n) (vs.drop n) = (szs ks vs).drop n
  | [], vs, n => by cases n <;> simp [szs]
  | k :: ks, [], n => by cases n <;> simp [szs]
  | k :: ks, v :: vs, 0 => by simp
  | k :: ks, v :: vs, n + 1 => by simp [szs, szs_drop ks vs n]
theorem szs_at : ∀ (ks vs : List ByteArray) (i : Nat), vs.length = ks.length → i < ks.length → (szs ks vs).getD i 0 = (encS (kAt ks i) ++ encS (kAt vs i)).length
  | [], _, i, _, h => by simp at h
  | _ :: _, [], i, h, _ => by simp at h
  | k :: ks, v :: vs, 0, _, _ => by simp [szs, kAt]
  | k :: ks, v :: vs, i + 1, h, hi => by
    have := szs_at ks vs i (by simpa using h) (by simpa using hi)
    rw [kAt_cons, kAt_cons, ← this]
    simp [szs]
def hd (n : Nat) : Nat := (encH true n).length
theorem hd_le {n : Nat} (h : n ≤ 100000) : hd n ≤ 11 := by
  unfold hd encH
  have := enc_len10 (u := n) (by omega)
  rw [List.length_cons]; omega
theorem encP_leaf_len (ks vs : List ByteArray) (is : List Nat) : (encP ⟨true, ks, vs, is⟩).length = hd ks.length + sumL (szs ks vs) := by
  rw [encP_leaf rfl, List.length_append, szs_sum]; rfl
/-- Should a leaf of so many items, so many bytes, give one away? -/
def crB (items bytes : Nat) : Bool := decide (1 < items) && decide (900 < hd items + bytes)
def upT (c : Nat → Bool) : Nat → Nat → Nat
  | 0, a => a
  | f + 1, a => if c a then upT c f (a + 1) else a
def dnT (c : Nat → Bool) : Nat → Nat
  | 0 => 0
  | a + 1 => if c (a + 1) then dnT c a else a + 1
def cS (l : List Nat) (a : Nat) : Bool := crB (l.length - a) (sumL (l.drop a))
def cF (l : List Nat) (a : Nat) : Bool := crB a (sumL (l.take a))
def top (l : List Nat) : Nat := upT (cS l) (l.length - l.length / 2) (l.length / 2)
def mid (l : List Nat) : Nat := dnT (cF l) (top l)
theorem cS_lt {l : List Nat} {a : Nat} (h : cS l a = true) : 1 < l.length - a := by
  unfold cS crB at h
  simp only [Bool.and_eq_true, decide_eq_true_eq] at h
  exact h.1
theorem cF_lt {l : List Nat} {a : Nat} (h : cF l a = true) : 1 < a := by
  unfold cF crB at h
  simp only [Bool.and_eq_true, decide_eq_true_eq] at h
  exact h.1
theorem upT_step {c : Nat → Bool} {n a : Nat} (h : c a = true) (ha : a < n) : upT c (n - a) a = upT c (n - (a + 1)) (a + 1) := by
  rw [show n - a = (n - (a + 1)) + 1 by omega]
  simp [upT, h]
theorem upT_stop {c : Nat → Bool} {f a : Nat} (h : c a = false) : upT c f a = a := by
  cases f with
  | zero => rfl
  | succ f => simp [upT, h]
theorem dnT_step {c : Nat → Bool} {a : Nat} (h : c a = true) (ha : 0 < a) : dnT c a = dnT c (a - 1) := by
  obtain ⟨b, rfl⟩ : ∃ b, a = b + 1 := ⟨a - 1, by omega⟩
  simp [dnT, h]
theorem dnT_stop {c : Nat → Bool} {a : Nat} (h : c a = false) : dnT c a = a := by
  cases a with
  | zero => rfl
  | succ a => simp [dnT, h]
theorem up_bd (l : List Nat) : ∀ (f a : Nat), 1 ≤ a → a < l.length → 1 ≤ upT (cS l) f a ∧ upT (cS l) f a < l.length ∧ a ≤ upT (cS l) f a
  | 0, a, h1, h2 => ⟨h1, h2, Nat.le_refl _⟩
  | f + 1, a, h1, h2 => by
    cases c : cS l a with
    | true =>
      have := cS_lt c
      have ih := up_bd l f (a + 1) (by omega) (by omega)
      simp only [upT, c, if_true]
      exact ⟨ih.1, ih.2.1, by omega⟩
    | false => simp only [upT, c, Bool.false_eq_true, if_false]; exact ⟨h1, h2, Nat.le_refl _⟩
theorem dn_bd (l : List Nat) : ∀ (a : Nat), 1 ≤ a → 1 ≤ dnT (cF l) a ∧ dnT (cF l) a ≤ a
  | 0, h => by omega
  | a + 1, h => by
    cases c : cF l (a + 1) with
    | true =>
      have := cF_lt c
      have ih := dn_bd l a (by omega)
      simp only [dnT, c, if_true]
      exact ⟨ih.1, by omega⟩
    | false => simp only [dnT, c, Bool.false_eq_true, if_false]; exact ⟨h, Nat.le_refl _⟩
theorem top_bd {l : List Nat} (h : 2 ≤ l.length) : 1 ≤ top l ∧ top l < l.length := by
  have := up_bd l (l.length - l.length / 2) (l.length / 2) (by omega) (by omega)
  exact ⟨this.1, this.2.1⟩
theorem mid_bd {l : List Nat} (h : 2 ≤ l.length) : 1 ≤ mid l ∧ mid l < l.length := by
  have a := top_bd h
  have b := dn_bd l (top l) a.1
  exact ⟨b.1, Nat.lt_of_le_of_lt b.2 a.2⟩
/-- Where the walk up ends nothing is to be given away. -/
theorem up_end (l : List Nat) : ∀ (f a : Nat), l.length - a ≤ f → cS l (upT (cS l) f a) = false
  | 0, a, h => by
    cases c : cS l a with
    | true => have := cS_lt c; omega
    | false => exact c
  | f + 1, a, h => by
    cases c : cS l a with
    | true =>
      simp only [upT, c, if_true]
      exact up_end l f (a + 1) (by omega)
    | false => simp only [upT, c, Bool.false_eq_true, if_false]
theorem dn_end (l : List Nat) : ∀ (a : Nat), cF l (dnT (cF l) a) = false
  | 0 => by
    cases c : cF l 0 with
    | true => have := cF_lt c; omega
    | false => exact c
  | a + 1 => by
    cases c : cF l (a + 1) with
    | true =>
      simp only [dnT, c, if_true]
      exact dn_end l a
    | false => simp only [dnT, c, Bool.false_eq_true, if_false]
/-- One further it would have been too much. -/
theorem dn_more (l : List Nat) : ∀ (a : Nat), dnT (cF l) a = a ∨ cF l (dnT (cF l) a + 1) = true
  | 0 => Or.inl rfl
  | a + 1 => by
    cases c : cF l (a + 1) with
    | true =>
      simp only [dnT, c, if_true]
      rcases dn_more l a with q | q
      · right; rw [q]; exact c
      · right; exact q
    | false => left; simp only [dnT, c, Bool.false_eq_true, if_false]
/-- A leaf's halves. -/
def lfA (p : Pg) : Pg := ⟨true, p.keys.take (mid (szs p.keys p.vals)), p.vals.take (mid (szs p.keys p.vals)), []⟩
def lfB (p : Pg) : Pg := ⟨true, p.keys.drop (mid (szs p.keys p.vals)), p.vals.drop (mid (szs p.keys p.vals)), []⟩
/-- A branch's. -/
def brA (p : Pg) : Pg := ⟨false, p.keys.take (p.keys.length / 2), [], p.kids.take (p.keys.length / 2 + 1)⟩
def brB (p : Pg) : Pg := ⟨false, p.keys.drop (p.keys.length / 2 + 1), [], p.kids.drop (p.keys.length / 2 + 1)⟩
def zeroP : Pg := ⟨false, [], [], []⟩
/-- The texts and numbers of sizes as cells. -/
def iv (l : List Nat) : List Value := l.map fun k => Value.int .i64 (k : Nat)
theorem iv_len (l : List Nat) : (iv l).length = l.length := by simp [iv]
theorem iv_take (l : List Nat) (k : Nat) : (iv l).take k = iv (l.take k) := by simp [iv]
theorem iv_drop (l : List Nat) (k : Nat) : (iv l).drop k = iv (l.drop k) := by simp [iv]
theorem iv_get {l : List Nat} {i : Nat} (h : i < l.length) : (iv l)[i]? = some (.int .i64 ((l.getD i 0 : Nat) : Int)) := by simp [iv, List.getD, h]
theorem Sl.int {w : World} {b o n cap : Nat} {l : List Nat} (h : Sl w (some ⟨b, o, none⟩) n cap (iv l)) {i : Nat} (hi : i < n) : w.cell? ⟨b, o + i, none⟩ = some (.int .i64 ((l.getD i 0 : Nat) : Int)) := by
  have := h.len
  rw [iv_len] at this
  exact h.cells i _ (iv_get (by omega))

end Go.Proofs.Ytfedcghkohfhlaa
