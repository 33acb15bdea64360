/- Plain mathematics: a number in bytes of seven bits, and back; the sum of bytes by the polynomial. No program in it. -/
import Derived.WalkKit
namespace Go.Proofs.YtjkbiglnpoeddaaDoor
set_option linter.unusedVariables false
set_option linter.unusedSimpArgs false

/-- A number's bytes. -/
def enc (u : Nat) : List Int := if u < 128 then [(u : Int)] else ((u % 128 + 128 : Nat) : Int) :: enc (u / 128)
  termination_by u
  decreasing_by omega
theorem enc_lt {u : Nat} (h : u < 128) : enc u = [(u : Int)] := by rw [enc, if_pos h]
theorem enc_ge {u : Nat} (h : 128 ≤ u) : enc u = ((u % 128 + 128 : Nat) : Int) :: enc (u / 128) := by rw [enc, if_neg (by omega)]
theorem enc_len (k : Nat) : ∀ u : Nat, u < 128 ^ (k + 1) → (enc u).length ≤ k + 1 := by
  induction k with
  | zero => intro u h; rw [enc_lt (by simpa using h)]; simp
  | succ k ih =>
    intro u h
    by_cases c : u < 128
    · rw [enc_lt c]; simp
    · rw [enc_ge (by omega), List.length_cons]
      have := ih (u / 128) (by rw [Nat.div_lt_iff_lt_mul (by decide)]; rw [Nat.pow_succ] at h; exact h)
      omega
theorem enc_len10 {u : Nat} (h : u < 18446744073709551616) : (enc u).length ≤ 10 := by
  refine enc_len 9 u ?_
  have e : (128 : Nat) ^ (9 + 1) = 1180591620717411303424 := by decide
  rw [e]
  omega
theorem enc_pos (u : Nat) : 1 ≤ (enc u).length := by
  by_cases c : u < 128
  · rw [enc_lt c]; simp
  · rw [enc_ge (by omega)]; simp

/-- All are bytes. -/
def Bys (l : List Int) : Prop := ∀ x ∈ l, 0 ≤ x ∧ x < 256
theorem Bys.nil : Bys [] := fun x h => by simp at h
theorem Bys.cons {x : Int} {l : List Int} (h : Bys (x :: l)) : (0 ≤ x ∧ x < 256) ∧ Bys l := ⟨h x (by simp), fun y hy => h y (by simp [hy])⟩
theorem Bys.mk {x : Int} {l : List Int} (a : 0 ≤ x) (b : x < 256) (h : Bys l) : Bys (x :: l) := fun y hy => by
  simp at hy
  rcases hy with rfl | hy
  · exact ⟨a, b⟩
  · exact h y hy
theorem Bys.app {a b : List Int} (h : Bys a) (k : Bys b) : Bys (a ++ b) := fun y hy => by
  simp at hy
  rcases hy with hy | hy
  · exact h y hy
  · exact k y hy
theorem Bys.drop {l : List Int} (h : Bys l) (k : Nat) : Bys (l.drop k) := fun y hy => h y (List.mem_of_mem_drop hy)
theorem Bys.take {l : List Int} (h : Bys l) (k : Nat) : Bys (l.take k) := fun y hy => h y (List.mem_of_mem_take hy)
theorem Bys.getD {l : List Int} (h : Bys l) (i : Nat) : 0 ≤ l.getD i 0 ∧ l.getD i 0 < 256 := by
  by_cases hi : i < l.length
  · have e : l.getD i 0 = l[i] := by simp [List.getD, hi]
    rw [e]; exact h _ (List.getElem_mem hi)
  · have e : l.getD i 0 = 0 := by simp [List.getD, show l.length ≤ i by omega]
    rw [e]; decide
theorem bys_enc : ∀ u : Nat, Bys (enc u) := by
  intro u
  induction u using Nat.strongRecOn with
  | ind u ih =>
    by_cases c : u < 128
    · rw [enc_lt c]; exact Bys.mk (by omega) (by omega) Bys.nil
    · rw [enc_ge (by omega)]; exact Bys.mk (by omega) (by omega) (ih _ (by omega))

/-- The number that bytes begin with, from its byte i on, and how many bytes it takes. -/
def dec (i acc : Nat) : List Int → Option (Nat × Nat)
  | [] => none
  | c :: r => if 9 < i then none else if 128 ≤ c then dec (i + 1) (acc + (c.toNat - 128) * 128 ^ i) r
    else if (0 < i ∧ c = 0) ∨ (i = 9 ∧ 1 < c) then none else some (acc + c.toNat * 128 ^ i, i + 1)
theorem dec_nil (i acc : Nat) : dec i acc [] = none := rfl
theorem dec_far {i acc : Nat} {l : List Int} (h : 9 < i) : dec i acc l = none := by
  cases l with
  | nil => rfl
  | cons c r => simp [dec, h]
theorem dec_more {i acc : Nat} {c : Int} {r : List Int} (h : i ≤ 9) (k : 128 ≤ c) : dec i acc (c :: r) = dec (i + 1) (acc + (c.toNat - 128) * 128 ^ i) r := by
  simp only [dec]; rw [if_neg (by omega), if_pos k]
theorem dec_bad {i acc : Nat} {c : Int} {r : List Int} (k : c < 128) (b : (0 < i ∧ c = 0) ∨ (i = 9 ∧ 1 < c)) : dec i acc (c :: r) = none := by
  simp only [dec]
  by_cases h : 9 < i
  · rw [if_pos h]
  · rw [if_neg h, if_neg (by omega), if_pos b]
theorem dec_last {i acc : Nat} {c : Int} {r : List Int} (h : i ≤ 9) (k : c < 128) (b : ¬ ((0 < i ∧ c = 0) ∨ (i = 9 ∧ 1 < c))) : dec i acc (c :: r) = some (acc + c.toNat * 128 ^ i, i + 1) := by
  simp only [dec]; rw [if_neg (by omega), if_neg (by omega), if_neg b]

theorem p128 {i : Nat} (h : i ≤ 9) : 128 ^ i ≤ 9223372036854775808 := Nat.le_trans (Nat.pow_le_pow_right (by decide) h) (by decide)
theorem p128' {i : Nat} (h : 9 ≤ i) : 9223372036854775808 ≤ 128 ^ i := Nat.le_trans (by decide) (Nat.pow_le_pow_right (by decide) h)

/-- What is written is read. -/
theorem dec_enc (r : List Int) : ∀ (u i acc : Nat), i ≤ 9 → (0 < i → 0 < u) → u * 128 ^ i < 18446744073709551616 → dec i acc (enc u ++ r) = some (acc + u * 128 ^ i, i + (enc u).length) := by
  intro u
  induction u using Nat.strongRecOn with
  | ind u ih =>
    intro i acc hi hp hl
    by_cases c : u < 128
    · rw [enc_lt c]
      show dec i acc ((u : Int) :: r) = _
      rw [dec_last hi (by omega) ?_]
      · simp
      · rintro (⟨a, b⟩ | ⟨a, b⟩)
        · have := hp a; omega
        · subst a
          have : (128 : Nat) ^ 9 = 9223372036854775808 := by decide
          rw [this] at hl
          omega
    · rw [enc_ge (by omega)]
      show dec i acc (((u % 128 + 128 : Nat) : Int) :: (enc (u / 128) ++ r)) = _
      rw [dec_more hi (by omega)]
      have hq : u / 128 * 128 ^ (i + 1) ≤ u * 128 ^ i := by
        rw [Nat.pow_succ, Nat.mul_comm (128 ^ i) 128, ← Nat.mul_assoc]
        exact Nat.mul_le_mul_right _ (by omega)
      have hi' : i + 1 ≤ 9 := by
        rcases Nat.lt_or_ge i 9 with q | q
        · omega
        · have e : i = 9 := by omega
          subst e
          have : (128 : Nat) ^ 9 = 9223372036854775808 := by decide
          rw [this] at hl
          omega
      rw [ih (u / 128) (by omega) (i + 1) _ hi' (fun _ => by omega) (by omega)]
      congr 1
      refine Prod.ext ?_ ?_
      · show acc + (((u % 128 + 128 : Nat) : Int).toNat - 128) * 128 ^ i + u / 128 * 128 ^ (i + 1) = acc + u * 128 ^ i
        have e : ((u % 128 + 128 : Nat) : Int).toNat - 128 = u % 128 := by omega
        rw [e, Nat.pow_succ, Nat.mul_comm (128 ^ i) 128, ← Nat.mul_assoc, Nat.add_assoc, ← Nat.add_mul]
        rw [show u % 128 + u / 128 * 128 = u by omega]
      · simp only [List.length_cons]; omega
theorem dec_enc0 {u : Nat} (h : u < 18446744073709551616) (r : List Int) : dec 0 0 (enc u ++ r) = some (u, (enc u).length) := by
  have := dec_enc r u 0 0 (by decide) (fun p => by omega) (by simpa using h)
  simpa using this

/-- What is read is a number of 64 bits, and no more bytes than there are. -/
theorem dec_ok : ∀ (l : List Int) (i acc u n : Nat), Bys l → acc < 128 ^ i → dec i acc l = some (u, n) → u < 18446744073709551616 ∧ i + 1 ≤ n ∧ n ≤ i + l.length := by
  intro l
  induction l with
  | nil => intro i acc u n _ _ h; simp [dec] at h
  | cons c r ih =>
    intro i acc u n hb ha h
    have hc := hb.cons.1
    by_cases h9 : 9 < i
    · rw [dec_far h9] at h; cases h
    · by_cases k : 128 ≤ c
      · rw [dec_more (by omega) k] at h
        have := ih (i + 1) _ u n hb.cons.2 ?_ h
        · simp only [List.length_cons]; omega
        · have p : (c.toNat - 128) * 128 ^ i ≤ 127 * 128 ^ i := Nat.mul_le_mul_right _ (by omega)
          rw [Nat.pow_succ]; omega
      · by_cases b : (0 < i ∧ c = 0) ∨ (i = 9 ∧ 1 < c)
        · rw [dec_bad (by omega) b] at h; cases h
        · rw [dec_last (by omega) (by omega) b] at h
          cases h
          refine ⟨?_, by omega, by simp⟩
          rcases Nat.lt_or_ge i 9 with q | q
          · have p : c.toNat * 128 ^ i ≤ 127 * 128 ^ i := Nat.mul_le_mul_right _ (by omega)
            have := p128 (show i + 1 ≤ 9 by omega)
            rw [Nat.pow_succ] at this
            omega
          · have e : i = 9 := by omega
            subst e
            have e9 : (128 : Nat) ^ 9 = 9223372036854775808 := by decide
            rw [e9] at ha ⊢
            omega

/-- What a Reader reads as a number; what is left; whether it could not. -/
def rU (l : List Int) : Nat := match dec 0 0 l with | none => 0 | some x => x.1
def rR (l : List Int) : List Int := match dec 0 0 l with | none => [] | some x => l.drop x.2
def rB (l : List Int) : Bool := match dec 0 0 l with | none => true | some _ => false
theorem rU_none {l : List Int} (h : dec 0 0 l = none) : rU l = 0 ∧ rR l = [] ∧ rB l = true := by unfold rU rR rB; rw [h]; exact ⟨rfl, rfl, rfl⟩
theorem rU_some {l : List Int} {u n : Nat} (h : dec 0 0 l = some (u, n)) : rU l = u ∧ rR l = l.drop n ∧ rB l = false := by unfold rU rR rB; rw [h]; exact ⟨rfl, rfl, rfl⟩
theorem rU_enc {u : Nat} (h : u < 18446744073709551616) (r : List Int) : rU (enc u ++ r) = u ∧ rR (enc u ++ r) = r ∧ rB (enc u ++ r) = false := by
  have := rU_some (dec_enc0 h r)
  simpa using this
theorem rU_lt {l : List Int} (h : Bys l) : rU l < 18446744073709551616 := by
  cases e : dec 0 0 l with
  | none => rw [(rU_none e).1]; decide
  | some x => rw [(rU_some (u := x.1) (n := x.2) e).1]; exact (dec_ok l 0 0 x.1 x.2 h (by decide) e).1
theorem rR_bys {l : List Int} (h : Bys l) : Bys (rR l) := by
  cases e : dec 0 0 l with
  | none => rw [(rU_none e).2.1]; exact Bys.nil
  | some x => rw [(rU_some (u := x.1) (n := x.2) e).2.1]; exact h.drop _
theorem rR_len (l : List Int) : (rR l).length ≤ l.length := by
  unfold rR
  cases dec 0 0 l with
  | none => simp
  | some x => simp

/-- With a sign. -/
def zig (v : Int) : Nat := if v < 0 then (-2 * v - 1).toNat else (2 * v).toNat
def zag (u : Nat) : Int := if u % 2 = 1 then -((u / 2 : Nat) : Int) - 1 else ((u / 2 : Nat) : Int)
theorem zag_zig (v : Int) : zag (zig v) = v := by unfold zag zig; split <;> split <;> omega
theorem zig_lt {v : Int} (h : -9223372036854775808 ≤ v) (k : v < 9223372036854775808) : zig v < 18446744073709551616 := by unfold zig; split <;> omega

/-- A text: its length, then its bytes. -/
def tU (l : List Int) : List Int := if (rR l).length < rU l then [] else (rR l).take (rU l)
def tR (l : List Int) : List Int := if (rR l).length < rU l then [] else (rR l).drop (rU l)
def tB (l : List Int) : Bool := rB l || decide ((rR l).length < rU l)
theorem tU_no {l : List Int} (h : (rR l).length < rU l) : tU l = [] ∧ tR l = [] ∧ tB l = true := by unfold tU tR tB; simp [h]
theorem tU_yes {l : List Int} (h : ¬ (rR l).length < rU l) : tU l = (rR l).take (rU l) ∧ tR l = (rR l).drop (rU l) ∧ tB l = rB l := by unfold tU tR tB; simp [h]
theorem tU_enc {s : List Int} (h : s.length < 18446744073709551616) (r : List Int) : tU (enc s.length ++ s ++ r) = s ∧ tR (enc s.length ++ s ++ r) = r ∧ tB (enc s.length ++ s ++ r) = false := by
  have e := rU_enc h (s ++ r)
  rw [← List.append_assoc] at e
  have n : ¬ (rR (enc s.length ++ s ++ r)).length < rU (enc s.length ++ s ++ r) := by rw [e.1, e.2.1]; simp
  have t := tU_yes n
  rw [t.1, t.2.1, t.2.2, e.1, e.2.1, e.2.2]
  simp

/-- No number's bytes begin another's. -/
theorem enc_apart : ∀ (a b n : Nat), n ≤ (enc a).length → n ≤ (enc b).length → (n = (enc a).length ∨ n = (enc b).length) → (enc a).take n = (enc b).take n → a = b := by
  intro a
  induction a using Nat.strongRecOn with
  | ind a ih =>
    intro b n h1 h2 hm h
    have ea := enc_pos a
    have eb := enc_pos b
    obtain ⟨m, rfl⟩ : ∃ m, n = m + 1 := ⟨n - 1, by omega⟩
    by_cases ca : a < 128
    · by_cases cb : b < 128
      · rw [enc_lt ca, enc_lt cb] at h; simp at h; omega
      · rw [enc_lt ca, enc_ge (by omega)] at h; simp at h; omega
    · by_cases cb : b < 128
      · rw [enc_ge (by omega), enc_lt cb] at h; simp at h; omega
      · rw [enc_ge (show 128 ≤ a by omega)] at h h1 hm
        rw [enc_ge (show 128 ≤ b by omega)] at h h2 hm
        simp only [List.take_succ_cons, List.cons.injEq, List.length_cons] at h h1 h2 hm
        have := ih (a / 128) (by omega) (b / 128) m (by omega) (by omega) (by omega) h.2
        omega
theorem enc_mono : ∀ (a b : Nat), a ≤ b → (enc a).length ≤ (enc b).length := by
  intro a
  induction a using Nat.strongRecOn with
  | ind a ih =>
    intro b h
    by_cases ca : a < 128
    · rw [enc_lt ca]; exact enc_pos b
    · rw [enc_ge (show 128 ≤ a by omega), enc_ge (show 128 ≤ b by omega), List.length_cons, List.length_cons]
      have := ih (a / 128) (by omega) (b / 128) (by omega)
      omega

end Go.Proofs.YtjkbiglnpoeddaaDoor
