/- Plain mathematics of pages, on: bytes read as a page. -/
import Derived.Test.YtfedcghkohfhlaaPa
namespace Go.Proofs.Ytfedcghkohfhlaa
open Go.RowKit
set_option linter.unusedVariables false
set_option linter.unusedSimpArgs false

/-- n items of a page read off bytes. -/
def rdI (lf : Bool) : Nat → List Int → Option (List ByteArray × List ByteArray × List Int)
  | 0, bs => some ([], [], bs)
  | n + 1, bs => if tB bs then none else
    if lf then (if tB (tR bs) then none else (rdI lf n (tR (tR bs))).map fun x => (strOfNums (tU bs) :: x.1, strOfNums (tU (tR bs)) :: x.2.1, x.2.2))
    else (rdI lf n (tR bs)).map fun x => (strOfNums (tU bs) :: x.1, x.2.1, x.2.2)
def rdN : Nat → List Int → Option (List Nat × List Int)
  | 0, bs => some ([], bs)
  | n + 1, bs => if rB bs then none else (rdN n (rR bs)).map fun x => (rU bs :: x.1, x.2)
def fin (p : Pg) (b : List Int) : Option Pg := if b.length = 0 ∧ goodB p = true then some p else none
/-- What behind the first byte is read. -/
def rdH (lf : Bool) (r : List Int) : Option (List ByteArray × List ByteArray × List Int) := if rB r then none else rdI lf (rU r) (rR r)
def dcdB (lf : Bool) (r : List Int) : Option Pg := match rdH lf r with
  | none => none
  | some x => if lf then fin ⟨true, x.1, x.2.1, []⟩ x.2.2 else match rdN (x.1.length + 1) x.2.2 with
    | none => none
    | some y => fin ⟨false, x.1, x.2.1, y.1⟩ y.2
/-- Bytes read as a page. -/
def dcd : List Int → Option Pg
  | [] => none
  | c :: r => if c = 76 then dcdB true r else if c = 66 then dcdB false r else none

theorem rR_lt {l : List Int} (hb : Bys l) (h : rB l = false) : (rR l).length + 1 ≤ l.length := by
  cases e : dec 0 0 l with
  | none => rw [(rU_none e).2.2] at h; cases h
  | some x =>
    have k := dec_ok l 0 0 x.1 x.2 hb (by decide) e
    rw [(rU_some (u := x.1) (n := x.2) e).2.1, List.length_drop]
    omega
theorem rB_nil {l : List Int} (h : rB l = true) : rU l = 0 ∧ rR l = [] := by
  cases e : dec 0 0 l with
  | none => exact ⟨(rU_none e).1, (rU_none e).2.1⟩
  | some x => rw [(rU_some (u := x.1) (n := x.2) e).2.2] at h; cases h
theorem tB_parts {l : List Int} (h : tB l = false) : rB l = false ∧ ¬ (rR l).length < rU l := by
  unfold tB at h
  simp only [Bool.or_eq_false_iff, decide_eq_false_iff_not] at h
  exact h
theorem tR_lt {l : List Int} (hb : Bys l) (h : tB l = false) : (tU l).length + (tR l).length + 1 ≤ l.length := by
  obtain ⟨h1, h2⟩ := tB_parts h
  have t := tU_yes h2
  rw [t.1, t.2.1, List.length_take, List.length_drop]
  have := rR_lt hb h1
  omega
theorem tB_nil {l : List Int} (h : tB l = true) : tU l = [] ∧ tR l = [] := by
  by_cases c : (rR l).length < rU l
  · exact ⟨(tU_no c).1, (tU_no c).2.1⟩
  · have t := tU_yes c
    rw [t.2.2] at h
    have := rB_nil h
    rw [t.1, t.2.1, this.1, this.2]
    exact ⟨rfl, rfl⟩
theorem tR_bys {l : List Int} (h : Bys l) : Bys (tR l) := by
  by_cases c : (rR l).length < rU l
  · rw [(tU_no c).2.1]; exact Bys.nil
  · rw [(tU_yes c).2.1]; exact (rR_bys h).drop _
theorem tU_bys {l : List Int} (h : Bys l) : Bys (tU l) := by
  by_cases c : (rR l).length < rU l
  · rw [(tU_no c).1]; exact Bys.nil
  · rw [(tU_yes c).1]; exact (rR_bys h).take _
theorem str_size (l : List Int) : (strOfNums l).size = l.length := by
  unfold strOfNums
  simp [ByteArray.size]

/-- What is known while items are read: those that were, and what is left. -/
structure RI (T : Option (List ByteArray × List ByteArray × List Int)) (lf : Bool) (L n : Nat) (bad : Bool) (bs : List Int) (ks vs : List ByteArray) : Prop where
  no : bad = true → T = none ∧ bs = []
  yes : bad = false → T = (rdI lf n bs).map fun x => (ks ++ x.1, vs ++ x.2.1, x.2.2)
  len : ks.length + tot ks + tot vs + bs.length ≤ L + (if bad then 1 else 0)
  even : lf = true → vs.length = ks.length
  odd : lf = false → vs = []
  bys : Bys bs
theorem RI.start (lf : Bool) {r : List Int} (hb : Bys r) : RI (rdH lf r) lf r.length (rU r) (rB r) (rR r) [] [] := by
  refine ⟨fun h => ?_, fun h => ?_, ?_, fun _ => rfl, fun _ => rfl, rR_bys hb⟩
  · unfold rdH; rw [h]; exact ⟨rfl, (rB_nil h).2⟩
  · unfold rdH; rw [h]; simp
  · have := rR_len r; simp [tot]; omega
theorem map_map {α β γ : Type} (o : Option α) (f : α → β) (g : β → γ) : (o.map f).map g = o.map (fun x => g (f x)) := by cases o <;> rfl
theorem RI.leaf {T : Option (List ByteArray × List ByteArray × List Int)} {L n : Nat} {bs : List Int} {ks vs : List ByteArray} (h : RI T true L (n + 1) false bs ks vs) :
    RI T true L n (false || tB bs || tB (tR bs)) (tR (tR bs)) (ks ++ [strOfNums (tU bs)]) (vs ++ [strOfNums (tU (tR bs))]) := by
  have hy := h.yes rfl
  have hl := h.len
  have hev := h.even rfl
  simp only [Bool.false_eq_true, if_false] at hl
  rw [Bool.false_or]
  refine ⟨fun hb => ?_, fun hb => ?_, ?_, fun _ => by simp [hev], fun e => (by cases e), tR_bys (tR_bys h.bys)⟩
  · rw [hy]
    cases c1 : tB bs with
    | true =>
      refine ⟨by simp [rdI, c1], ?_⟩
      rw [(tB_nil c1).2]
      rfl
    | false =>
      rw [c1, Bool.false_or] at hb
      exact ⟨by simp [rdI, c1, hb], (tB_nil hb).2⟩
  · simp only [Bool.or_eq_false_iff] at hb
    rw [hy]
    simp only [rdI, hb.1, hb.2, Bool.false_eq_true, if_false, if_true, map_map]
    simp
  · simp only [List.length_append, tot_app, tot, str_size, List.length_cons, List.length_nil]
    cases c1 : tB bs with
    | true =>
      rw [(tB_nil c1).1, (tB_nil c1).2]
      have e1 : tU ([] : List Int) = [] := rfl
      have e2 : tR ([] : List Int) = [] := rfl
      rw [e1, e2]
      simp
      omega
    | false =>
      have k1 := tR_lt h.bys c1
      cases c2 : tB (tR bs) with
      | true =>
        rw [(tB_nil c2).1, (tB_nil c2).2]
        simp
        omega
      | false =>
        have k2 := tR_lt (tR_bys h.bys) c2
        simp
        omega
theorem RI.branch {T : Option (List ByteArray × List ByteArray × List Int)} {L n : Nat} {bs : List Int} {ks vs : List ByteArray} (h : RI T false L (n + 1) false bs ks vs) :
    RI T false L n (false || tB bs) (tR bs) (ks ++ [strOfNums (tU bs)]) vs := by
  have hy := h.yes rfl
  have hl := h.len
  simp only [Bool.false_eq_true, if_false] at hl
  rw [Bool.false_or]
  refine ⟨fun hb => ?_, fun hb => ?_, ?_, fun e => (by cases e), h.odd, tR_bys h.bys⟩
  · rw [hy]
    exact ⟨by simp [rdI, hb], (tB_nil hb).2⟩
  · rw [hy]
    simp only [rdI, hb, Bool.false_eq_true, if_false, map_map]
    simp
  · simp only [List.length_append, tot_app, tot, str_size, List.length_cons, List.length_nil]
    cases c1 : tB bs with
    | true =>
      rw [(tB_nil c1).1, (tB_nil c1).2]
      simp
      omega
    | false =>
      have k1 := tR_lt h.bys c1
      simp
      omega
/-- It is bad, and stays so. -/
theorem RI.on {T : Option (List ByteArray × List ByteArray × List Int)} {lf : Bool} {L n m : Nat} {bs : List Int} {ks vs : List ByteArray} (h : RI T lf L n true bs ks vs) : RI T lf L m true bs ks vs :=
  ⟨h.no, fun e => (by cases e), h.len, h.even, h.odd, h.bys⟩
theorem RI.done {T : Option (List ByteArray × List ByteArray × List Int)} {lf : Bool} {L : Nat} {bs : List Int} {ks vs : List ByteArray} (h : RI T lf L 0 false bs ks vs) : T = some (ks, vs, bs) := by
  rw [h.yes rfl]; simp [rdI]
/-- The kids likewise. -/
structure RN (T : Option (List Nat × List Int)) (m : Nat) (bad : Bool) (bs : List Int) (is : List Nat) : Prop where
  no : bad = true → T = none
  yes : bad = false → T = (rdN m bs).map fun x => (is ++ x.1, x.2)
  kid : ∀ k ∈ is, k < 18446744073709551616
  bys : Bys bs
theorem RN.next {T : Option (List Nat × List Int)} {m : Nat} {bad : Bool} {bs : List Int} {is : List Nat} (h : RN T (m + 1) bad bs is) : RN T m (bad || rB bs) (rR bs) (is ++ [rU bs]) := by
  refine ⟨fun hb => ?_, fun hb => ?_, fun k hk => ?_, rR_bys h.bys⟩
  · cases bad with
    | true => exact h.no rfl
    | false =>
      rw [Bool.false_or] at hb
      rw [h.yes rfl]
      simp [rdN, hb]
  · simp only [Bool.or_eq_false_iff] at hb
    rw [h.yes hb.1]
    simp only [rdN, hb.2, Bool.false_eq_true, if_false, map_map]
    simp
  · rcases List.mem_append.1 hk with q | q
    · exact h.kid k q
    · simp at q; subst q; exact rU_lt h.bys
theorem RN.done {T : Option (List Nat × List Int)} {bs : List Int} {is : List Nat} (h : RN T 0 false bs is) : T = some (is, bs) := by
  rw [h.yes rfl]; simp [rdN]
/-- No more items than bytes. -/
theorem rdI_len (lf : Bool) : ∀ (n : Nat) (bs : List Int), Bys bs → bs.length < n → rdI lf n bs = none
  | 0, bs, _, h => by omega
  | n + 1, bs, hb, h => by
    unfold rdI
    cases c1 : tB bs with
    | true => simp
    | false =>
      have k1 := tR_lt hb c1
      cases lf with
      | true =>
        cases c2 : tB (tR bs) with
        | true => simp
        | false =>
          have k2 := tR_lt (tR_bys hb) c2
          simp [rdI_len true n (tR (tR bs)) (tR_bys (tR_bys hb)) (by omega)]
      | false => simp [rdI_len false n (tR bs) (tR_bys hb) (by omega)]
theorem rdH_len (lf : Bool) {r : List Int} (hb : Bys r) (h : r.length < rU r) : rdH lf r = none := by
  unfold rdH
  cases c : rB r with
  | true => rfl
  | false =>
    rw [if_neg (by decide)]
    exact rdI_len lf _ _ (rR_bys hb) (by have := rR_len r; omega)
theorem dcdB_none {lf : Bool} {r : List Int} (h : rdH lf r = none) : dcdB lf r = none := by unfold dcdB; rw [h]
theorem dcdB_leaf {r : List Int} {ks vs : List ByteArray} {b : List Int} (h : rdH true r = some (ks, vs, b)) : dcdB true r = fin ⟨true, ks, vs, []⟩ b := by unfold dcdB; rw [h]; simp
theorem dcdB_branch_no {r : List Int} {ks vs : List ByteArray} {b : List Int} (h : rdH false r = some (ks, vs, b)) (k : rdN (ks.length + 1) b = none) : dcdB false r = none := by unfold dcdB; rw [h]; simp [k]
theorem dcdB_branch {r : List Int} {ks vs : List ByteArray} {b b' : List Int} {is : List Nat} (h : rdH false r = some (ks, vs, b)) (k : rdN (ks.length + 1) b = some (is, b')) : dcdB false r = fin ⟨false, ks, vs, is⟩ b' := by unfold dcdB; rw [h]; simp [k]
theorem fin_yes {p : Pg} {b : List Int} (h : b.length = 0) (g : goodB p = true) : fin p b = some p := by unfold fin; rw [if_pos ⟨h, g⟩]
theorem fin_no1 {p : Pg} {b : List Int} (h : 0 < b.length) : fin p b = none := by unfold fin; rw [if_neg (by omega)]
theorem fin_no2 {p : Pg} {b : List Int} (h : goodB p = false) : fin p b = none := by unfold fin; rw [if_neg (by rw [h]; simp)]
theorem dcd_no {c : Int} {r : List Int} (h1 : c ≠ 76) (h2 : c ≠ 66) : dcd (c :: r) = none := by simp only [dcd]; rw [if_neg h1, if_neg h2]
theorem dcd_76 {r : List Int} : dcd (76 :: r) = dcdB true r := by simp [dcd]
theorem dcd_66 {r : List Int} : dcd (66 :: r) = dcdB false r := by simp [dcd]

/-- What is read off as a number is written so. -/
theorem dec_back : ∀ (l : List Int) (i acc u n : Nat), Bys l → dec i acc l = some (u, n) → ∃ x : Nat, u = acc + x * 128 ^ i ∧ i + (enc x).length = n ∧ l = enc x ++ l.drop (n - i) ∧ (0 < i → 0 < x) := by
  intro l
  induction l with
  | nil => intro i acc u n _ h; simp [dec] at h
  | cons c r ih =>
    intro i acc u n hb h
    have hc := hb.cons.1
    by_cases h9 : 9 < i
    · rw [dec_far h9] at h; cases h
    · by_cases k : 128 ≤ c
      · rw [dec_more (by omega) k] at h
        obtain ⟨x, e1, e2, e3, e4⟩ := ih (i + 1) _ u n hb.cons.2 h
        have xp := e4 (by omega)
        have E : enc (x * 128 + (c.toNat - 128)) = c :: enc x := by
          rw [enc_ge (by omega)]
          have q1 : (x * 128 + (c.toNat - 128)) % 128 = c.toNat - 128 := by omega
          have q2 : (x * 128 + (c.toNat - 128)) / 128 = x := by omega
          rw [q1, q2]
          have q3 : ((c.toNat - 128 + 128 : Nat) : Int) = c := by omega
          rw [q3]
        have n1 : n - i = (n - (i + 1)) + 1 := by have := enc_pos x; omega
        refine ⟨x * 128 + (c.toNat - 128), ?_, ?_, ?_, fun _ => by omega⟩
        · rw [e1, Nat.pow_succ, Nat.add_mul, Nat.mul_assoc, Nat.mul_comm 128 (128 ^ i)]
          omega
        · rw [E, List.length_cons]; omega
        · rw [E, n1, List.drop_succ_cons]
          show c :: r = c :: (enc x ++ _)
          rw [← e3]
      · by_cases b : (0 < i ∧ c = 0) ∨ (i = 9 ∧ 1 < c)
        · rw [dec_bad (by omega) b] at h; cases h
        · rw [dec_last (by omega) (by omega) b] at h
          cases h
          have E : enc c.toNat = [c] := by
            rw [enc_lt (by omega)]
            have q3 : ((c.toNat : Nat) : Int) = c := by omega
            rw [q3]
          refine ⟨c.toNat, rfl, by rw [E]; rfl, ?_, fun h0 => by omega⟩
          rw [E]
          have : i + 1 - i = 1 := by omega
          rw [this]
          rfl
theorem enc_rU {l : List Int} (hb : Bys l) (h : rB l = false) : enc (rU l) ++ rR l = l := by
  cases e : dec 0 0 l with
  | none => rw [(rU_none e).2.2] at h; cases h
  | some x =>
    have r := rU_some (u := x.1) (n := x.2) e
    obtain ⟨y, e1, e2, e3, _⟩ := dec_back l 0 0 x.1 x.2 hb e
    rw [r.1, r.2.1]
    have : x.1 = y := by simpa using e1
    rw [this]
    exact e3.symm
theorem encS_tU {l : List Int} (hb : Bys l) (h : tB l = false) : encS (strOfNums (tU l)) ++ tR l = l := by
  obtain ⟨h1, h2⟩ := tB_parts h
  have t := tU_yes h2
  have e := enc_rU hb h1
  unfold encS
  rw [str_size, str_nums (tU_bys hb), t.1, t.2.1, List.length_take]
  have : min (rU l) (rR l).length = rU l := by omega
  rw [this, List.append_assoc, List.take_append_drop]
  exact e
theorem encI_rdI : ∀ (n : Nat) (bs : List Int) (x : List ByteArray × List ByteArray × List Int), Bys bs → rdI true n bs = some x → encI x.1 x.2.1 ++ x.2.2 = bs ∧ x.1.length = n ∧ x.2.1.length = n
  | 0, bs, x, _, h => by simp [rdI] at h; subst h; simp [encI]
  | n + 1, bs, x, hb, h => by
    unfold rdI at h
    cases c1 : tB bs with
    | true => simp [c1] at h
    | false =>
      cases c2 : tB (tR bs) with
      | true => simp [c1, c2] at h
      | false =>
        simp only [c1, c2, Bool.false_eq_true, if_false, if_true] at h
        cases e : rdI true n (tR (tR bs)) with
        | none => rw [e] at h; cases h
        | some y =>
          rw [e] at h
          simp at h
          subst h
          obtain ⟨q1, q2, q3⟩ := encI_rdI n _ y (tR_bys (tR_bys hb)) e
          refine ⟨?_, by simp [q2], by simp [q3]⟩
          simp only [encI, List.append_assoc]
          rw [q1, encS_tU (tR_bys hb) c2, encS_tU hb c1]
theorem encK_rdI : ∀ (n : Nat) (bs : List Int) (x : List ByteArray × List ByteArray × List Int), Bys bs → rdI false n bs = some x → encK x.1 ++ x.2.2 = bs ∧ x.1.length = n ∧ x.2.1 = [] ∧ Bys x.2.2
  | 0, bs, x, hb, h => by simp [rdI] at h; subst h; simp [encK, hb]
  | n + 1, bs, x, hb, h => by
    unfold rdI at h
    cases c1 : tB bs with
    | true => simp [c1] at h
    | false =>
      simp only [c1, Bool.false_eq_true, if_false] at h
      cases e : rdI false n (tR bs) with
      | none => rw [e] at h; cases h
      | some y =>
        rw [e] at h
        simp at h
        subst h
        obtain ⟨q1, q2, q3, q4⟩ := encK_rdI n _ y (tR_bys hb) e
        refine ⟨?_, by simp [q2], q3, q4⟩
        simp only [encK, List.append_assoc]
        rw [q1, encS_tU hb c1]
theorem encN_rdN : ∀ (n : Nat) (bs : List Int) (x : List Nat × List Int), Bys bs → rdN n bs = some x → encN x.1 ++ x.2 = bs ∧ x.1.length = n ∧ ∀ k ∈ x.1, k < 18446744073709551616
  | 0, bs, x, _, h => by simp [rdN] at h; subst h; simp [encN]
  | n + 1, bs, x, hb, h => by
    unfold rdN at h
    cases c1 : rB bs with
    | true => simp [c1] at h
    | false =>
      simp only [c1, Bool.false_eq_true, if_false] at h
      cases e : rdN n (rR bs) with
      | none => rw [e] at h; cases h
      | some y =>
        rw [e] at h
        simp at h
        subst h
        obtain ⟨q1, q2, q3⟩ := encN_rdN n _ y (rR_bys hb) e
        refine ⟨?_, by simp [q2], fun k hk => ?_⟩
        · simp only [encN, List.append_assoc]
          rw [q1, enc_rU hb c1]
        · simp at hk
          rcases hk with rfl | hk
          · exact rU_lt hb
          · exact q3 k hk
theorem fin_some {p q : Pg} {b : List Int} (h : fin p b = some q) : q = p ∧ b = [] ∧ goodB p = true := by
  unfold fin at h
  by_cases c : b.length = 0 ∧ goodB p = true
  · rw [if_pos c] at h
    injection h with h
    exact ⟨h.symm, List.length_eq_zero_iff.1 c.1, c.2⟩
  · rw [if_neg c] at h; cases h
/-- What is read as a page is just that page's bytes. -/
theorem encP_dcd {bs : List Int} {p : Pg} (hb : Bys bs) (h : dcd bs = some p) : encP p = bs ∧ goodB p = true ∧ ∀ k ∈ p.kids, k < 18446744073709551616 := by
  cases bs with
  | nil => simp [dcd] at h
  | cons c r =>
    have hr := hb.cons.2
    by_cases c1 : c = 76
    · subst c1
      rw [dcd_76] at h
      unfold dcdB at h
      cases e : rdH true r with
      | none => rw [e] at h; cases h
      | some x =>
        rw [e] at h
        simp only [if_true] at h
        obtain ⟨rfl, q1, q2⟩ := fin_some h
        unfold rdH at e
        cases c2 : rB r with
        | true => rw [c2] at e; cases e
        | false =>
          rw [c2, if_neg (by decide)] at e
          obtain ⟨i1, i2, i3⟩ := encI_rdI _ _ x (rR_bys hr) e
          refine ⟨?_, q2, fun k hk => by simp at hk⟩
          rw [encP_leaf rfl]
          simp only
          rw [i2]
          rw [q1, List.append_nil] at i1
          rw [i1]
          unfold encH mark
          simp [enc_rU hr c2]
    · by_cases c3 : c = 66
      · subst c3
        rw [dcd_66] at h
        unfold dcdB at h
        cases e : rdH false r with
        | none => rw [e] at h; cases h
        | some x =>
          rw [e] at h
          simp only [Bool.false_eq_true, if_false] at h
          unfold rdH at e
          cases c2 : rB r with
          | true => rw [c2] at e; cases e
          | false =>
            rw [c2, if_neg (by decide)] at e
            obtain ⟨i1, i2, i3, i4⟩ := encK_rdI _ _ x (rR_bys hr) e
            cases e2 : rdN (x.1.length + 1) x.2.2 with
            | none => rw [e2] at h; cases h
            | some y =>
              rw [e2] at h
              obtain ⟨rfl, q1, q2⟩ := fin_some h
              obtain ⟨j1, j2, j3⟩ := encN_rdN _ _ y i4 e2
              refine ⟨?_, q2, j3⟩
              rw [encP_branch rfl]
              simp only
              rw [i2]
              rw [q1, List.append_nil] at j1
              rw [j1, i1]
              unfold encH mark
              simp [enc_rU hr c2]
      · rw [dcd_no c1 c3] at h; cases h
/-- And back. -/
theorem tU_encS {s : ByteArray} (h : s.size < 18446744073709551616) (r : List Int) : tU (encS s ++ r) = nums s ∧ tR (encS s ++ r) = r ∧ tB (encS s ++ r) = false := by
  have := tU_enc (s := nums s) (by rw [nums_len]; exact h) r
  rw [nums_len] at this
  exact this
theorem rdI_encI : ∀ (ks vs : List ByteArray) (r : List Int), vs.length = ks.length → (∀ s ∈ ks, s.size < 18446744073709551616) → (∀ s ∈ vs, s.size < 18446744073709551616) → rdI true ks.length (encI ks vs ++ r) = some (ks, vs, r)
  | [], [], r, _, _, _ => rfl
  | [], _ :: _, _, h, _, _ => by simp at h
  | _ :: _, [], _, h, _, _ => by simp at h
  | k :: ks, v :: vs, r, h, h1, h2 => by
    have a := tU_encS (h1 k (by simp)) (encS v ++ (encI ks vs ++ r))
    have b := tU_encS (h2 v (by simp)) (encI ks vs ++ r)
    have ih := rdI_encI ks vs r (by simpa using h) (fun s hs => h1 s (by simp [hs])) (fun s hs => h2 s (by simp [hs]))
    simp only [List.length_cons, encI, List.append_assoc, rdI]
    rw [a.1, a.2.1, a.2.2, b.1, b.2.1, b.2.2, ih]
    simp [nums_str]
theorem rdI_encK : ∀ (ks : List ByteArray) (r : List Int), (∀ s ∈ ks, s.size < 18446744073709551616) → rdI false ks.length (encK ks ++ r) = some (ks, [], r)
  | [], r, _ => rfl
  | k :: ks, r, h1 => by
    have a := tU_encS (h1 k (by simp)) (encK ks ++ r)
    have ih := rdI_encK ks r (fun s hs => h1 s (by simp [hs]))
    simp only [List.length_cons, encK, List.append_assoc, rdI]
    rw [a.1, a.2.1, a.2.2, ih]
    simp [nums_str]
theorem rdN_encN : ∀ (ks : List Nat) (r : List Int), (∀ k ∈ ks, k < 18446744073709551616) → rdN ks.length (encN ks ++ r) = some (ks, r)
  | [], r, _ => rfl
  | k :: ks, r, h1 => by
    have a := rU_enc (h1 k (by simp)) (encN ks ++ r)
    have ih := rdN_encN ks r (fun s hs => h1 s (by simp [hs]))
    simp only [List.length_cons, encN, List.append_assoc, rdN]
    rw [a.1, a.2.1, a.2.2, ih]
    simp
theorem dcd_encP {p : Pg} (g : goodB p = true) (f : Fit p) : dcd (encP p) = some p := by
  have s1 : ∀ s ∈ p.keys, s.size < 18446744073709551616 := fun s hs => by
    obtain ⟨i, hi, rfl⟩ := List.mem_iff_getElem.1 hs
    have := kAt_le (ss := p.keys) i
    rw [kAt_get hi] at this
    have := f.tk
    omega
  have s2 : ∀ s ∈ p.vals, s.size < 18446744073709551616 := fun s hs => by
    obtain ⟨i, hi, rfl⟩ := List.mem_iff_getElem.1 hs
    have := kAt_le (ss := p.vals) i
    rw [kAt_get hi] at this
    have := f.tv
    omega
  have n1 : p.keys.length < 18446744073709551616 := by have := f.keys; omega
  obtain ⟨lf, ks, vs, is⟩ := p
  cases lf with
  | true =>
    rw [encP_leaf rfl]
    have e := goodB_leaf g rfl
    simp only at e s1 s2 n1 ⊢
    obtain ⟨e1, rfl⟩ := e
    unfold encH mark
    rw [if_pos rfl, List.cons_append, dcd_76]
    have a := rU_enc n1 (encI ks vs)
    have H : rdH true (enc ks.length ++ encI ks vs) = some (ks, vs, []) := by
      unfold rdH
      rw [a.1, a.2.1, a.2.2]
      have := rdI_encI ks vs [] e1 s1 s2
      rw [List.append_nil] at this
      simpa using this
    rw [dcdB_leaf H]
    exact fin_yes rfl g
  | false =>
    rw [encP_branch rfl]
    have e := goodB_branch g rfl
    have kk := f.kid
    simp only at e s1 n1 kk ⊢
    obtain ⟨rfl, e2⟩ := e
    unfold encH mark
    rw [if_neg (by decide), List.cons_append, dcd_66]
    have a := rU_enc n1 (encK ks ++ encN is)
    have H : rdH false (enc ks.length ++ (encK ks ++ encN is)) = some (ks, [], encN is) := by
      unfold rdH
      rw [a.1, a.2.1, a.2.2]
      have := rdI_encK ks (encN is) s1
      simpa using this
    have N : rdN (ks.length + 1) (encN is) = some (is, []) := by
      have := rdN_encN is [] kk
      rw [List.append_nil] at this
      rw [← e2]; exact this
    rw [dcdB_branch H N]
    exact fin_yes rfl g

end Go.Proofs.Ytfedcghkohfhlaa
