/- Plain mathematics of pages: the order of texts, which pages are good, their bytes, and back; the place of a key. -/
import Derived.Test.YtfedcghkohfhlaaS1
import Derived.Lib.Strings
namespace Go.Proofs.Ytfedcghkohfhlaa
open Go.RowKit
set_option linter.unusedVariables false
set_option linter.unusedSimpArgs false

/-- The order of texts. -/
def ltS (a b : ByteArray) : Bool := Op.bytesLess a.toList b.toList
theorem less_irrefl : ∀ x : List UInt8, Op.bytesLess x x = false
  | [] => rfl
  | a :: x => by simp [Op.bytesLess, less_irrefl x]
theorem less_trans : ∀ x y z : List UInt8, Op.bytesLess x y = true → Op.bytesLess y z = true → Op.bytesLess x z = true
  | x, y, [] => by intro _ h; cases y <;> simp [Op.bytesLess] at h
  | [], y, c :: z => by intro _ _; rfl
  | a :: x, [], c :: z => by intro h; simp [Op.bytesLess] at h
  | a :: x, b :: y, c :: z => by
    intro h k
    simp only [Op.bytesLess, Bool.or_eq_true, Bool.and_eq_true, decide_eq_true_eq, beq_iff_eq] at h k ⊢
    rcases h with h | ⟨rfl, h⟩
    · rcases k with k | ⟨rfl, k⟩
      · exact Or.inl (UInt8.lt_trans h k)
      · exact Or.inl h
    · rcases k with k | ⟨rfl, k⟩
      · exact Or.inl k
      · exact Or.inr ⟨rfl, less_trans x y z h k⟩
theorem less_total : ∀ x y : List UInt8, Op.bytesLess x y = false → Op.bytesLess y x = false → x = y
  | [], [] => fun _ _ => rfl
  | [], b :: y => by intro h; simp [Op.bytesLess] at h
  | a :: x, [] => by intro _ h; simp [Op.bytesLess] at h
  | a :: x, b :: y => by
    intro h k
    simp only [Op.bytesLess, Bool.or_eq_false_iff, decide_eq_false_iff_not, Bool.and_eq_false_iff, beq_eq_false_iff_ne] at h k
    have e : a = b := UInt8.le_antisymm (UInt8.not_lt.1 k.1) (UInt8.not_lt.1 h.1)
    subst e
    have h2 : Op.bytesLess x y = false := by rcases h.2 with q | q; exact absurd rfl q; exact q
    have k2 : Op.bytesLess y x = false := by rcases k.2 with q | q; exact absurd rfl q; exact q
    rw [less_total x y h2 k2]
theorem toL_inj {a b : ByteArray} (h : a.toList = b.toList) : a = b := by
  rw [Lib.toList_data, Lib.toList_data] at h
  obtain ⟨⟨a⟩⟩ := a
  obtain ⟨⟨b⟩⟩ := b
  simp at h
  rw [h]
theorem toL_eq (a b : ByteArray) : (a.toList == b.toList) = decide (a = b) := by
  by_cases h : a = b
  · subst h; simp
  · rw [decide_eq_false h, beq_eq_false_iff_ne]; exact fun e => h (toL_inj e)
theorem ltS_irrefl (a : ByteArray) : ltS a a = false := less_irrefl _
theorem ltS_trans {a b c : ByteArray} (h : ltS a b = true) (k : ltS b c = true) : ltS a c = true := less_trans _ _ _ h k
theorem ltS_total {a b : ByteArray} (h : ltS a b = false) (k : ltS b a = false) : a = b := toL_inj (less_total _ _ h k)
theorem ltS_asym {a b : ByteArray} (h : ltS a b = true) : ltS b a = false := by
  cases k : ltS b a with
  | false => rfl
  | true => have := ltS_trans h k; rw [ltS_irrefl] at this; cases this
theorem ltS_ne {a b : ByteArray} (h : ltS a b = true) : a ≠ b := by
  intro e; subst e; rw [ltS_irrefl] at h; cases h

/-- The key i of a page's keys. -/
def kAt (ks : List ByteArray) (i : Nat) : ByteArray := ks.getD i ByteArray.empty
theorem kAt_get {ks : List ByteArray} {i : Nat} (h : i < ks.length) : kAt ks i = ks[i] := by simp [kAt, List.getD, h]
def kOk (ks : List ByteArray) (i : Nat) : Bool := decide (1 ≤ (kAt ks i).size) && decide ((kAt ks i).size ≤ 40) && (decide (i = 0) || ltS (kAt ks (i - 1)) (kAt ks i))
def keysB (ks : List ByteArray) : Bool := (List.range ks.length).all (kOk ks)
def valsB (vs : List ByteArray) : Bool := (List.range vs.length).all fun i => decide ((kAt vs i).size ≤ 400)
def kidsB (is : List Nat) : Bool := (List.range is.length).all fun i => decide (is.getD i 0 ≠ 0)
theorem keysB_true {ks : List ByteArray} (h : ∀ j, j < ks.length → kOk ks j = true) : keysB ks = true := by
  unfold keysB; rw [List.all_eq_true]; intro x hx; exact h x (List.mem_range.1 hx)
theorem keysB_false {ks : List ByteArray} {j : Nat} (hj : j < ks.length) (h : kOk ks j = false) : keysB ks = false := by
  unfold keysB; rw [List.all_eq_false]; exact ⟨j, List.mem_range.2 hj, by rw [h]; decide⟩
theorem keysB_at {ks : List ByteArray} (h : keysB ks = true) {j : Nat} (hj : j < ks.length) : kOk ks j = true := by
  unfold keysB at h; rw [List.all_eq_true] at h; exact h j (List.mem_range.2 hj)
theorem valsB_true {vs : List ByteArray} (h : ∀ j, j < vs.length → (kAt vs j).size ≤ 400) : valsB vs = true := by
  unfold valsB; rw [List.all_eq_true]; intro x hx; exact decide_eq_true (h x (List.mem_range.1 hx))
theorem valsB_false {vs : List ByteArray} {j : Nat} (hj : j < vs.length) (h : 400 < (kAt vs j).size) : valsB vs = false := by
  unfold valsB; rw [List.all_eq_false]; exact ⟨j, List.mem_range.2 hj, by simp; omega⟩
theorem valsB_at {vs : List ByteArray} (h : valsB vs = true) {j : Nat} (hj : j < vs.length) : (kAt vs j).size ≤ 400 := by
  unfold valsB at h; rw [List.all_eq_true] at h; exact of_decide_eq_true (h j (List.mem_range.2 hj))
theorem kidsB_true {is : List Nat} (h : ∀ j, j < is.length → is.getD j 0 ≠ 0) : kidsB is = true := by
  unfold kidsB; rw [List.all_eq_true]; intro x hx; exact decide_eq_true (h x (List.mem_range.1 hx))
theorem kidsB_false {is : List Nat} {j : Nat} (hj : j < is.length) (h : is.getD j 0 = 0) : kidsB is = false := by
  unfold kidsB; rw [List.all_eq_false]; exact ⟨j, List.mem_range.2 hj, by rw [decide_eq_false (by rw [h]; exact fun e => e rfl)]; decide⟩
theorem kidsB_nil : kidsB [] = true := rfl
theorem valsB_nil : valsB [] = true := rfl

def shapeB (p : Pg) : Bool := if p.leaf then decide (p.vals.length = p.keys.length) && decide (p.kids.length = 0) else decide (p.vals.length = 0) && decide (p.kids.length = p.keys.length + 1)
/-- May a page be? -/
def goodB (p : Pg) : Bool := keysB p.keys && (valsB p.vals && (kidsB p.kids && shapeB p))
theorem goodB_parts {p : Pg} (h : goodB p = true) : keysB p.keys = true ∧ valsB p.vals = true ∧ kidsB p.kids = true ∧ shapeB p = true := by
  unfold goodB at h
  simp only [Bool.and_eq_true] at h
  exact ⟨h.1, h.2.1, h.2.2.1, h.2.2.2⟩
theorem goodB_leaf {p : Pg} (h : goodB p = true) (l : p.leaf = true) : p.vals.length = p.keys.length ∧ p.kids = [] := by
  have := (goodB_parts h).2.2.2
  unfold shapeB at this
  rw [l] at this
  simp at this
  exact this
theorem goodB_branch {p : Pg} (h : goodB p = true) (l : p.leaf = false) : p.vals = [] ∧ p.kids.length = p.keys.length + 1 := by
  have := (goodB_parts h).2.2.2
  unfold shapeB at this
  rw [l] at this
  simp at this
  exact this

/-- A text's bytes, its length ahead. -/
def encS (s : ByteArray) : List Int := enc s.size ++ nums s
theorem encS_len (s : ByteArray) : (encS s).length = (enc s.size).length + s.size := by unfold encS; rw [List.length_append, nums_len]
theorem bys_encS (s : ByteArray) : Bys (encS s) := (bys_enc _).app (nums_bys s)
/-- The items of a leaf, one behind the other. -/
def encI : List ByteArray → List ByteArray → List Int
  | k :: ks, v :: vs => encS k ++ encS v ++ encI ks vs
  | _, _ => []
def encK : List ByteArray → List Int
  | [] => []
  | k :: ks => encS k ++ encK ks
def encN : List Nat → List Int
  | [] => []
  | k :: ks => enc k ++ encN ks
theorem encI_app : ∀ (a b c d : List ByteArray), a.length = b.length → encI (a ++ c) (b ++ d) = encI a b ++ encI c d
  | [], [], c, d, _ => rfl
  | k :: a, v :: b, c, d, h => by simp only [List.cons_append, encI, encI_app a b c d (by simpa using h), List.append_assoc]
  | [], _ :: _, _, _, h => by simp at h
  | _ :: _, [], _, _, h => by simp at h
theorem encK_app : ∀ (a c : List ByteArray), encK (a ++ c) = encK a ++ encK c
  | [], c => rfl
  | k :: a, c => by simp only [List.cons_append, encK, encK_app a c, List.append_assoc]
theorem encN_app : ∀ (a c : List Nat), encN (a ++ c) = encN a ++ encN c
  | [], c => rfl
  | k :: a, c => by simp only [List.cons_append, encN, encN_app a c, List.append_assoc]
theorem take_snoc {α : Type} {l : List α} {k : Nat} (h : k < l.length) (d : α) : l.take (k + 1) = l.take k ++ [l.getD k d] := by
  rw [List.take_succ_eq_append_getElem h]
  simp [List.getD, h]
theorem encI_snoc {ks vs : List ByteArray} {k : Nat} (h : k < ks.length) (e : vs.length = ks.length) : encI (ks.take (k + 1)) (vs.take (k + 1)) = encI (ks.take k) (vs.take k) ++ (encS (kAt ks k) ++ encS (kAt vs k)) := by
  rw [take_snoc h ByteArray.empty, take_snoc (l := vs) (by omega) ByteArray.empty, encI_app _ _ _ _ (by simp; omega)]
  simp [encI, kAt]
theorem encK_snoc {ks : List ByteArray} {k : Nat} (h : k < ks.length) : encK (ks.take (k + 1)) = encK (ks.take k) ++ encS (kAt ks k) := by
  rw [take_snoc h ByteArray.empty, encK_app]
  simp [encK, kAt]
theorem encN_snoc {ks : List Nat} {k : Nat} (h : k < ks.length) : encN (ks.take (k + 1)) = encN (ks.take k) ++ enc (ks.getD k 0) := by
  rw [take_snoc h 0, encN_app]
  simp [encN]
def mark (l : Bool) : Int := if l then 76 else 66
def encH (l : Bool) (n : Nat) : List Int := mark l :: enc n
/-- A page's bytes. -/
def encP (p : Pg) : List Int := encH p.leaf p.keys.length ++ (if p.leaf then encI p.keys p.vals else encK p.keys ++ encN p.kids)
theorem encP_leaf {p : Pg} (h : p.leaf = true) : encP p = encH true p.keys.length ++ encI p.keys p.vals := by unfold encP; rw [h, if_pos rfl]
theorem encP_branch {p : Pg} (h : p.leaf = false) : encP p = encH false p.keys.length ++ (encK p.keys ++ encN p.kids) := by unfold encP; rw [h, if_neg (by decide)]

/-- How many bytes texts have. -/
def tot : List ByteArray → Nat
  | [] => 0
  | s :: ss => s.size + tot ss
theorem tot_app : ∀ a b : List ByteArray, tot (a ++ b) = tot a + tot b
  | [], b => by simp [tot]
  | s :: a, b => by simp only [List.cons_append, tot, tot_app a b]; omega
theorem tot_take_le : ∀ (ss : List ByteArray) (k : Nat), tot (ss.take k) ≤ tot ss
  | [], k => by simp
  | s :: ss, 0 => by simp [tot]
  | s :: ss, k + 1 => by simp only [List.take_succ_cons, tot]; have := tot_take_le ss k; omega
theorem tot_drop_le : ∀ (ss : List ByteArray) (k : Nat), tot (ss.drop k) ≤ tot ss
  | [], k => by simp
  | s :: ss, 0 => by simp
  | s :: ss, k + 1 => by simp only [List.drop_succ_cons, tot]; have := tot_drop_le ss k; omega
theorem tot_at {ss : List ByteArray} {k : Nat} (h : k < ss.length) : tot (ss.take (k + 1)) = tot (ss.take k) + (kAt ss k).size := by
  rw [take_snoc h ByteArray.empty, tot_app]; simp [tot, kAt]
theorem kAt_le {ss : List ByteArray} (k : Nat) : (kAt ss k).size ≤ tot ss := by
  by_cases h : k < ss.length
  · have := tot_at h; have := tot_take_le ss (k + 1); omega
  · have : kAt ss k = ByteArray.empty := by simp [kAt, List.getD, show ss.length ≤ k by omega]
    rw [this]; exact Nat.zero_le _
theorem encS_le (s : ByteArray) (h : s.size ≤ 100000) : (encS s).length ≤ s.size + 10 := by
  rw [encS_len]; have := enc_len10 (u := s.size) (by omega); omega
theorem encI_le : ∀ ks vs : List ByteArray, tot ks ≤ 100000 → tot vs ≤ 100000 → (encI ks vs).length ≤ tot ks + tot vs + 20 * ks.length
  | [], vs => by intro _ _; simp [encI]
  | k :: ks, [] => by intro _ _; simp [encI]
  | k :: ks, v :: vs => by
    intro h1 h2
    simp only [tot] at h1 h2
    have := encI_le ks vs (by omega) (by omega)
    have := encS_le k (by omega)
    have := encS_le v (by omega)
    simp only [encI, List.length_append, tot, List.length_cons]
    omega
theorem encK_le : ∀ ks : List ByteArray, tot ks ≤ 100000 → (encK ks).length ≤ tot ks + 10 * ks.length
  | [] => by intro _; simp [encK]
  | k :: ks => by
    intro h1
    simp only [tot] at h1
    have := encK_le ks (by omega)
    have := encS_le k (by omega)
    simp only [encK, List.length_append, tot, List.length_cons]
    omega
theorem encN_le : ∀ ks : List Nat, (∀ k ∈ ks, k < 18446744073709551616) → (encN ks).length ≤ 10 * ks.length
  | [] => by intro _; simp [encN]
  | k :: ks => by
    intro h1
    have := encN_le ks (fun x hx => h1 x (by simp [hx]))
    have := enc_len10 (h1 k (by simp))
    simp only [encN, List.length_append, List.length_cons]
    omega
/-- A page within bounds: what the walks ask. -/
structure Bd (p : Pg) : Prop where
  keys : p.keys.length ≤ 90000
  vals : p.vals.length ≤ 90000
  kids : p.kids.length ≤ 90001
  tk : tot p.keys ≤ 90000
  tv : tot p.vals ≤ 90000
  kid : ∀ k ∈ p.kids, k < 18446744073709551616
structure Fit (p : Pg) : Prop where
  keys : p.keys.length ≤ 2000
  vals : p.vals.length ≤ 2000
  kids : p.kids.length ≤ 2001
  tk : tot p.keys ≤ 10000
  tv : tot p.vals ≤ 10000
  kid : ∀ k ∈ p.kids, k < 18446744073709551616
  even : p.leaf = true → p.vals.length = p.keys.length
theorem Fit.bd {p : Pg} (f : Fit p) : Bd p := by
  have a := f.keys
  have b := f.vals
  have c := f.kids
  have d := f.tk
  have e := f.tv
  exact ⟨by omega, by omega, by omega, by omega, by omega, f.kid⟩

end Go.Proofs.Ytfedcghkohfhlaa
