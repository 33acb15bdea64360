/- Plain mathematics: what a program's bytes are, and what is read out of bytes. -/
import Derived.Test.YtjkbiglnpoeddaaDoorMath
namespace Go.Proofs.YtjkbiglnpoeddaaDoor
set_option linter.unusedVariables false
set_option linter.unusedSimpArgs false

/-- Reading: the bytes that are left, and whether something could not be read. -/
abbrev Sr := List Int × Bool
/-- What is written and read. -/
structure Cod (α : Type) where
  en : α → List Int
  rd : Sr → α × Sr
  ok : α → Prop
  most : Nat
structure Cod.Good {α : Type} (c : Cod α) : Prop where
  back : ∀ x r, c.ok x → c.rd (c.en x ++ r, false) = (x, (r, false))
  fine : ∀ s : Sr, Bys s.1 → c.ok (c.rd s).1 ∧ Bys (c.rd s).2.1
  keep : ∀ s : Sr, s.2 = true → (c.rd s).2.2 = true
  size : ∀ s : Sr, Bys s.1 → (c.en (c.rd s).1).length + 10 * (c.rd s).2.1.length ≤ 10 * s.1.length + (if (c.rd s).2.2 = true then c.most else 0)
  less : ∀ s : Sr, (c.rd s).2.2 = false → (c.rd s).2.1.length + 1 ≤ s.1.length
  down : ∀ s : Sr, (c.rd s).2.1.length ≤ s.1.length
  pos : ∀ x, 1 ≤ (c.en x).length
  bys : ∀ x, c.ok x → Bys (c.en x)

theorem rU_cases (l : List Int) : (rU l = 0 ∧ rR l = [] ∧ rB l = true) ∨ (∃ u n, rU l = u ∧ rR l = l.drop n ∧ rB l = false ∧ dec 0 0 l = some (u, n)) := by
  cases e : dec 0 0 l with
  | none => exact Or.inl (rU_none e)
  | some x => exact Or.inr ⟨x.1, x.2, (rU_some (u := x.1) (n := x.2) e).1, (rU_some (u := x.1) (n := x.2) e).2.1, (rU_some (u := x.1) (n := x.2) e).2.2, rfl⟩
theorem dec_pos : ∀ (l : List Int) (i acc u n : Nat), dec i acc l = some (u, n) → i + 1 ≤ n ∧ n ≤ i + l.length := by
  intro l
  induction l with
  | nil => intro i acc u n h; simp [dec] at h
  | cons c r ih =>
    intro i acc u n h
    by_cases h9 : 9 < i
    · rw [dec_far h9] at h; cases h
    · by_cases k : 128 ≤ c
      · rw [dec_more (by omega) k] at h
        have := ih (i + 1) _ u n h
        simp only [List.length_cons]; omega
      · by_cases b : (0 < i ∧ c = 0) ∨ (i = 9 ∧ 1 < c)
        · rw [dec_bad (by omega) b] at h; cases h
        · rw [dec_last (by omega) (by omega) b] at h
          cases h
          exact ⟨by omega, by simp⟩
theorem rR_less {l : List Int} (h : rB l = false) : (rR l).length + 1 ≤ l.length := by
  rcases rU_cases l with ⟨_, _, h3⟩ | ⟨u, n, _, h2, _, h4⟩
  · rw [h3] at h; cases h
  · have := dec_pos l 0 0 u n h4
    rw [h2, List.length_drop]; omega
theorem zag_fit {u : Nat} (h : u < 18446744073709551616) : -9223372036854775808 ≤ zag u ∧ zag u < 9223372036854775808 := by unfold zag; split <;> omega
theorem zig_zag (u : Nat) : zig (zag u) = u := by unfold zag zig; split <;> split <;> omega
/-- A number's own bytes, against those that were read. -/
theorem rU_size {l : List Int} (h : Bys l) : (enc (rU l)).length + 10 * (rR l).length ≤ 10 * l.length + (if rB l = true then 1 else 0) := by
  have lt := rU_lt h
  rcases rU_cases l with ⟨h1, h2, h3⟩ | ⟨u, n, h1, h2, h3, h4⟩
  · rw [h1, h2, h3, if_pos rfl, enc_lt (by decide)]; simp
  · have p := dec_pos l 0 0 u n h4
    have q := enc_len10 lt
    rw [h2, h3, List.length_drop]; simp only [Bool.false_eq_true, if_false]; omega

theorem ite_le (b c : Bool) (k : Nat) : (if b = true then k else 0) ≤ (if (c || b) = true then k else 0) := by cases b <;> cases c <;> simp

/-- Numbers with a sign. -/
def cI : Cod Int where
  en v := enc (zig v)
  rd s := (zag (rU s.1), (rR s.1, s.2 || rB s.1))
  ok v := -9223372036854775808 ≤ v ∧ v < 9223372036854775808
  most := 1
theorem cI_good : cI.Good where
  back x r h := by
    have e := rU_enc (zig_lt h.1 h.2) r
    show (zag (rU (enc (zig x) ++ r)), (rR (enc (zig x) ++ r), false || rB (enc (zig x) ++ r))) = _
    rw [e.1, e.2.1, e.2.2, zag_zig]
    rfl
  fine s h := ⟨zag_fit (rU_lt h), rR_bys h⟩
  keep s h := by show (s.2 || _) = true; rw [h]; rfl
  size s hb := by
    show (enc (zig (zag (rU s.1)))).length + 10 * (rR s.1).length ≤ 10 * s.1.length + (if (s.2 || rB s.1) = true then 1 else 0)
    rw [zig_zag]
    exact Nat.le_trans (rU_size hb) (Nat.add_le_add_left (ite_le _ _ _) _)
  less s h := by
    have h' : (s.2 || rB s.1) = false := h
    rw [Bool.or_eq_false_iff] at h'
    exact rR_less h'.2
  down s := rR_len _
  pos x := enc_pos _
  bys x _ := bys_enc _

/-- Texts. -/
def cS : Cod (List Int) where
  en t := enc t.length ++ t
  rd s := (tU s.1, (tR s.1, s.2 || tB s.1))
  ok t := Bys t ∧ t.length < 18446744073709551616
  most := 1
theorem tU_size {l : List Int} (h : Bys l) : (enc (tU l).length ++ tU l).length + 10 * (tR l).length ≤ 10 * l.length + (if tB l = true then 1 else 0) := by
  have k := rU_size h
  have d := rR_len l
  by_cases c : (rR l).length < rU l
  · obtain ⟨e1, e2, e3⟩ := tU_no c
    rw [e1, e2, e3, if_pos rfl]
    rw [show ([] : List Int).length = 0 from rfl, enc_lt (by decide)]; simp
  · obtain ⟨e1, e2, e3⟩ := tU_yes c
    have q := enc_mono (tU l).length (rU l) (by rw [e1, List.length_take]; omega)
    rw [e1] at q
    rw [e1, e2, e3, List.length_append, List.length_drop]
    have : ((rR l).take (rU l)).length = rU l := by rw [List.length_take]; omega
    rw [this] at q ⊢
    omega
theorem cS_good : cS.Good where
  back x r h := by
    have e := tU_enc h.2 r
    show (tU (enc x.length ++ x ++ r), (tR (enc x.length ++ x ++ r), false || tB (enc x.length ++ x ++ r))) = _
    rw [e.1, e.2.1, e.2.2]
    rfl
  fine s h := by
    have lt := rU_lt h
    have rb := rR_bys h
    by_cases c : (rR s.1).length < rU s.1
    · obtain ⟨e1, e2, e3⟩ := tU_no c
      refine ⟨?_, ?_⟩
      · show Bys (tU s.1) ∧ (tU s.1).length < 18446744073709551616
        rw [e1]; exact ⟨Bys.nil, by decide⟩
      · show Bys (tR s.1)
        rw [e2]; exact Bys.nil
    · obtain ⟨e1, e2, e3⟩ := tU_yes c
      refine ⟨?_, ?_⟩
      · show Bys (tU s.1) ∧ (tU s.1).length < _
        rw [e1]; exact ⟨rb.take _, by rw [List.length_take]; omega⟩
      · show Bys (tR s.1)
        rw [e2]; exact rb.drop _
  keep s h := by show (s.2 || _) = true; rw [h]; rfl
  size s hb := by
    show (enc (tU s.1).length ++ tU s.1).length + 10 * (tR s.1).length ≤ 10 * s.1.length + (if (s.2 || tB s.1) = true then 1 else 0)
    exact Nat.le_trans (tU_size hb) (Nat.add_le_add_left (ite_le _ _ _) _)
  less s h := by
    have h' : (s.2 || tB s.1) = false := h
    rw [Bool.or_eq_false_iff] at h'
    have t := h'.2
    unfold tB at t
    rw [Bool.or_eq_false_iff] at t
    have := rR_less t.1
    show (tR s.1).length + 1 ≤ _
    have q : (tR s.1).length ≤ (rR s.1).length := by unfold tR; split <;> simp
    omega
  down s := by
    show (tR s.1).length ≤ _
    have := rR_len s.1
    have q : (tR s.1).length ≤ (rR s.1).length := by unfold tR; split <;> simp
    omega
  pos x := by show 1 ≤ (enc x.length ++ x).length; have := enc_pos x.length; rw [List.length_append]; omega
  bys x h := (bys_enc _).app h.1

/-- Two, one behind the other. -/
def cP {α β : Type} (c : Cod α) (d : Cod β) : Cod (α × β) where
  en x := c.en x.1 ++ d.en x.2
  rd s := ((( c.rd s).1, (d.rd (c.rd s).2).1), (d.rd (c.rd s).2).2)
  ok x := c.ok x.1 ∧ d.ok x.2
  most := c.most + d.most
theorem cP_good {α β : Type} {c : Cod α} {d : Cod β} (C : c.Good) (D : d.Good) : (cP c d).Good where
  back x r h := by
    show ((( c.rd (c.en x.1 ++ d.en x.2 ++ r, false)).1, (d.rd (c.rd (c.en x.1 ++ d.en x.2 ++ r, false)).2).1), (d.rd (c.rd (c.en x.1 ++ d.en x.2 ++ r, false)).2).2) = _
    rw [List.append_assoc, C.back _ _ h.1]
    simp only
    rw [D.back _ _ h.2]
  fine s h := by
    have a := C.fine s h
    have b := D.fine (c.rd s).2 a.2
    exact ⟨⟨a.1, b.1⟩, b.2⟩
  keep s h := D.keep _ (C.keep s h)
  size s hb := by
    have a := C.size s hb
    have b := D.size (c.rd s).2 (C.fine s hb).2
    have k := D.keep (c.rd s).2
    show (c.en (c.rd s).1 ++ d.en (d.rd (c.rd s).2).1).length + 10 * (d.rd (c.rd s).2).2.1.length ≤ 10 * s.1.length + (if (d.rd (c.rd s).2).2.2 = true then c.most + d.most else 0)
    rw [List.length_append]
    cases e : (c.rd s).2.2 with
    | true =>
      rw [k e, if_pos rfl] at b
      rw [k e, if_pos rfl]
      rw [e, if_pos rfl] at a
      omega
    | false =>
      rw [e] at a
      simp only [Bool.false_eq_true, if_false] at a
      split at b <;> split <;> first | omega | contradiction
  less s h := by
    have h' : (d.rd (c.rd s).2).2.2 = false := h
    have b := D.less _ h'
    have a := C.down s
    show (d.rd (c.rd s).2).2.1.length + 1 ≤ _
    omega
  down s := by
    have b := D.down (c.rd s).2
    have a := C.down s
    show (d.rd (c.rd s).2).2.1.length ≤ _
    omega
  pos x := by show 1 ≤ (c.en x.1 ++ d.en x.2).length; have := C.pos x.1; rw [List.length_append]; omega
  bys x h := (C.bys _ h.1).app (D.bys _ h.2)

/-- As many as told, till something can't be read. -/
def rdN {α : Type} (c : Cod α) : Nat → Sr → List α × Sr
  | 0, s => ([], s)
  | n + 1, s => if s.2 = true then ([], s) else ((c.rd s).1 :: (rdN c n (c.rd s).2).1, (rdN c n (c.rd s).2).2)
theorem rdN_bad {α : Type} (c : Cod α) (n : Nat) (s : Sr) (h : s.2 = true) : rdN c n s = ([], s) := by
  cases n with
  | zero => rfl
  | succ n => simp only [rdN]; rw [if_pos h]
theorem rdN_succ {α : Type} (c : Cod α) (n : Nat) (s : Sr) (h : s.2 = false) : rdN c (n + 1) s = ((c.rd s).1 :: (rdN c n (c.rd s).2).1, (rdN c n (c.rd s).2).2) := by
  simp only [rdN]; rw [if_neg (by rw [h]; decide)]
/-- How many there are: as they stand, or (q) none where there are more than bytes. -/
def cnt (q : Bool) (s : Sr) : Nat × Sr := if q = true ∧ (rR s.1).length < rU s.1 then (0, (rR s.1, true)) else (rU s.1, (rR s.1, s.2 || rB s.1))
/-- A list. -/
def cL {α : Type} (q : Bool) (c : Cod α) : Cod (List α) where
  en l := enc l.length ++ (l.map c.en).flatten
  rd s := rdN c (cnt q s).1 (cnt q s).2
  ok l := (∀ x ∈ l, c.ok x) ∧ l.length < 18446744073709551616
  most := c.most + 1
theorem rdN_back {α : Type} {c : Cod α} (C : c.Good) (r : List Int) : ∀ l : List α, (∀ x ∈ l, c.ok x) → rdN c l.length ((l.map c.en).flatten ++ r, false) = (l, (r, false)) := by
  intro l
  induction l with
  | nil => intro _; rfl
  | cons x l ih =>
    intro h
    rw [List.length_cons, rdN_succ _ _ _ rfl]
    simp only [List.map_cons, List.flatten_cons, List.append_assoc]
    rw [C.back _ _ (h x (by simp))]
    simp only
    rw [ih (fun y hy => h y (by simp [hy]))]
theorem rdN_fine {α : Type} {c : Cod α} (C : c.Good) : ∀ (n : Nat) (s : Sr), Bys s.1 → (∀ x ∈ (rdN c n s).1, c.ok x) ∧ Bys (rdN c n s).2.1 ∧ (rdN c n s).1.length ≤ n := by
  intro n
  induction n with
  | zero => intro s h; exact ⟨fun x hx => by simp [rdN] at hx, h, Nat.le_refl _⟩
  | succ n ih =>
    intro s h
    cases e : s.2 with
    | true => rw [rdN_bad _ _ _ e]; exact ⟨fun x hx => by simp at hx, h, by simp⟩
    | false =>
      rw [rdN_succ _ _ _ e]
      have a := C.fine s h
      have b := ih (c.rd s).2 a.2
      refine ⟨fun x hx => ?_, b.2.1, by simp only [List.length_cons]; omega⟩
      simp only [List.mem_cons] at hx
      rcases hx with rfl | hx
      · exact a.1
      · exact b.1 x hx
theorem rdN_keep {α : Type} {c : Cod α} (n : Nat) (s : Sr) (h : s.2 = true) : (rdN c n s).2.2 = true := by rw [rdN_bad _ _ _ h]; exact h
theorem rdN_size {α : Type} {c : Cod α} (C : c.Good) : ∀ (n : Nat) (s : Sr), Bys s.1 → ((rdN c n s).1.map c.en).flatten.length + 10 * (rdN c n s).2.1.length ≤ 10 * s.1.length + (if (rdN c n s).2.2 = true then c.most else 0) := by
  intro n
  induction n with
  | zero => intro s h; simp [rdN]
  | succ n ih =>
    intro s h
    cases e : s.2 with
    | true => rw [rdN_bad _ _ _ e]; simp
    | false =>
      rw [rdN_succ _ _ _ e]
      have a := C.size s h
      have b := ih (c.rd s).2 (C.fine s h).2
      simp only [List.map_cons, List.flatten_cons, List.length_append]
      cases f : (c.rd s).2.2 with
      | true =>
        rw [f, if_pos rfl] at a
        rw [rdN_bad _ _ _ f] at b ⊢
        rw [f] at b ⊢
        simp at b ⊢
        omega
      | false =>
        rw [f] at a
        simp only [Bool.false_eq_true, if_false] at a
        omega
theorem rdN_down {α : Type} {c : Cod α} (C : c.Good) : ∀ (n : Nat) (s : Sr), (rdN c n s).2.1.length ≤ s.1.length := by
  intro n
  induction n with
  | zero => intro s; exact Nat.le_refl _
  | succ n ih =>
    intro s
    cases e : s.2 with
    | true => rw [rdN_bad _ _ _ e]; exact Nat.le_refl _
    | false =>
      rw [rdN_succ _ _ _ e]
      have := ih (c.rd s).2
      have := C.down s
      show (rdN c n (c.rd s).2).2.1.length ≤ _
      omega
theorem flat_len {α : Type} {c : Cod α} (C : c.Good) (l : List α) : l.length ≤ (l.map c.en).flatten.length := by
  induction l with
  | nil => simp
  | cons x l ih => have := C.pos x; simp only [List.map_cons, List.flatten_cons, List.length_append, List.length_cons]; omega
theorem flat_bys {α : Type} {c : Cod α} (C : c.Good) (l : List α) (h : ∀ x ∈ l, c.ok x) : Bys (l.map c.en).flatten := by
  induction l with
  | nil => exact Bys.nil
  | cons x l ih => simp only [List.map_cons, List.flatten_cons]; exact (C.bys _ (h x (by simp))).app (ih fun y hy => h y (by simp [hy]))
theorem cnt_no {q : Bool} {s : Sr} (h : q = true ∧ (rR s.1).length < rU s.1) : cnt q s = (0, (rR s.1, true)) := by unfold cnt; rw [if_pos h]
theorem cnt_yes {q : Bool} {s : Sr} (h : ¬ (q = true ∧ (rR s.1).length < rU s.1)) : cnt q s = (rU s.1, (rR s.1, s.2 || rB s.1)) := by unfold cnt; rw [if_neg h]
theorem cL_good {α : Type} {q : Bool} {c : Cod α} (C : c.Good) : (cL q c).Good where
  back x r h := by
    show rdN c (cnt q (enc x.length ++ (x.map c.en).flatten ++ r, false)).1 (cnt q (enc x.length ++ (x.map c.en).flatten ++ r, false)).2 = _
    have e := rU_enc h.2 ((x.map c.en).flatten ++ r)
    rw [List.append_assoc]
    rw [cnt_yes (by
      rintro ⟨_, k⟩
      simp only at k
      rw [e.1, e.2.1, List.length_append] at k
      have := flat_len C x
      omega)]
    simp only
    rw [e.1, e.2.1, e.2.2]
    exact rdN_back C r x h.1
  fine s h := by
    have lt := rU_lt h
    have rb := rR_bys h
    by_cases k : q = true ∧ (rR s.1).length < rU s.1
    · have b := rdN_fine C 0 (rR s.1, true) rb
      refine ⟨⟨?_, ?_⟩, ?_⟩
      · show ∀ x ∈ (rdN c (cnt q s).1 (cnt q s).2).1, _
        rw [cnt_no k]; exact b.1
      · show (rdN c (cnt q s).1 (cnt q s).2).1.length < _
        rw [cnt_no k]; simp [rdN]
      · show Bys (rdN c (cnt q s).1 (cnt q s).2).2.1
        rw [cnt_no k]; exact b.2.1
    · have b := rdN_fine C (rU s.1) (rR s.1, s.2 || rB s.1) rb
      refine ⟨⟨?_, ?_⟩, ?_⟩
      · show ∀ x ∈ (rdN c (cnt q s).1 (cnt q s).2).1, _
        rw [cnt_yes k]; exact b.1
      · show (rdN c (cnt q s).1 (cnt q s).2).1.length < _
        rw [cnt_yes k]; simp only; omega
      · show Bys (rdN c (cnt q s).1 (cnt q s).2).2.1
        rw [cnt_yes k]; exact b.2.1
  keep s h := by
    show (rdN c (cnt q s).1 (cnt q s).2).2.2 = true
    by_cases k : q = true ∧ (rR s.1).length < rU s.1
    · rw [cnt_no k]; exact rdN_keep _ _ rfl
    · rw [cnt_yes k]; exact rdN_keep _ _ (by show (s.2 || _) = true; rw [h]; rfl)
  size s hb := by
    show (enc (rdN c (cnt q s).1 (cnt q s).2).1.length ++ ((rdN c (cnt q s).1 (cnt q s).2).1.map c.en).flatten).length + 10 * (rdN c (cnt q s).1 (cnt q s).2).2.1.length ≤ 10 * s.1.length + (if (rdN c (cnt q s).1 (cnt q s).2).2.2 = true then c.most + 1 else 0)
    have lt := rU_lt hb
    have rb := rR_bys hb
    have d := rR_len s.1
    by_cases k : q = true ∧ (rR s.1).length < rU s.1
    · rw [cnt_no k]
      simp [rdN, enc_lt (show 0 < 128 by decide)]
      omega
    · rw [cnt_yes k]
      simp only
      have z := rU_size hb
      cases e : (s.2 || rB s.1) with
      | true =>
        rw [rdN_bad _ _ _ rfl]
        simp [enc_lt (show 0 < 128 by decide)]
        omega
      | false =>
        rw [Bool.or_eq_false_iff] at e
        rw [e.2] at z
        simp only [Bool.false_eq_true, if_false] at z
        have b := rdN_size C (rU s.1) (rR s.1, false) rb
        have f := (rdN_fine C (rU s.1) (rR s.1, false) rb).2.2
        have m := enc_mono _ _ f
        rw [List.length_append]
        simp only at b
        split at b <;> split <;> first | omega | contradiction
  less s h := by
    have h' : (rdN c (cnt q s).1 (cnt q s).2).2.2 = false := h
    show (rdN c (cnt q s).1 (cnt q s).2).2.1.length + 1 ≤ _
    by_cases k : q = true ∧ (rR s.1).length < rU s.1
    · rw [cnt_no k] at h'; cases h'
    · rw [cnt_yes k] at h' ⊢
      simp only at h' ⊢
      cases e : (s.2 || rB s.1) with
      | true => rw [e, rdN_bad _ _ _ rfl] at h'; cases h'
      | false =>
        rw [Bool.or_eq_false_iff] at e
        have := rR_less e.2
        have := rdN_down C (rU s.1) (rR s.1, false)
        simp only at this
        omega
  down s := by
    show (rdN c (cnt q s).1 (cnt q s).2).2.1.length ≤ _
    have d := rR_len s.1
    by_cases k : q = true ∧ (rR s.1).length < rU s.1
    · rw [cnt_no k]; exact Nat.le_trans (rdN_down C _ _) d
    · rw [cnt_yes k]; exact Nat.le_trans (rdN_down C _ _) d
  pos x := by show 1 ≤ (enc x.length ++ (x.map c.en).flatten).length; have := enc_pos x.length; rw [List.length_append]; omega
  bys x h := (bys_enc _).app (flat_bys C x h.1)

end Go.Proofs.YtjkbiglnpoeddaaDoor
