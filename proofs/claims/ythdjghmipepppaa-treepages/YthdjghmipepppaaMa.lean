/- Plain mathematics: a number in bytes of seven bits, and back; the sum of bytes by the polynomial. No program in it. Bytes in memory: slices of them, those of a call's own, and what an append makes of them. The walks over package pack's writers. The walks over package pack's writers, on: U, I, S. The walks over package pack's Reader: what it reads. The walks over package pack's Reader, on: a Reader in memory; U, I, S, Left, Bad. The walks over package pack, on: a Reader is made. -/
import Derived.WalkKit
import Derived.Test.YthdjghmipepppaaRows
import Derived.WalkSpells
import Derived.WalkLawsBesides
import Derived.Handy
import Derived.Laws.BytesArg
import Derived.Laws.AppendOwnNone
import Derived.Lib.AppendStr
import Derived.Deep.LoopGhost
import Derived.Laws.BitsAllLaws
import Derived.Laws.OwnMore
namespace Go.Proofs.Ythdjghmipepppaa
set_option linter.unusedVariables false
set_option linter.unusedSimpArgs false

/-- A number's bytes. -/
def enc (u : Nat) : List Int := if u < 128 then [(u : Int)] else ((u % 128 + 128 : Nat) : Int) :: enc (u / 128)
  termination_by u
  decreasing_by omega
theorem enc_lt {u : Nat} (h : u < 128) : enc u = [(u : Int)] := by rw [enc, if_pos h]
theorem enc_ge {u : Nat} (h : 128 ≤ u) : enc u = ((u % 128 + 128 : Nat) : Int) :: enc (u / 128) := by rw [enc, if_neg (by omega)]
theorem enc_len (k : Nat) : ∀ u : Nat, u < 128 ^ (k + 1) → (enc u).length ≤ k + 1 := by
  induction k with
  | zero => intro u h; rw [enc_lt (by simpa using h)]; simp
  | succ k ih =>
    intro u h
    by_cases c : u < 128
    · rw [enc_lt c]; simp
    · rw [enc_ge (by omega), List.length_cons]
      have := ih (u / 128) (by rw [Nat.div_lt_iff_lt_mul (by decide)]; rw [Nat.pow_succ] at h; exact h)
      omega
theorem enc_len10 {u : Nat} (h : u < 18446744073709551616) : (enc u).length ≤ 10 := by
  refine enc_len 9 u ?_
  have e : (128 : Nat) ^ (9 + 1) = 1180591620717411303424 := by decide
  rw [e]
  omega
theorem enc_pos (u : Nat) : 1 ≤ (enc u).length := by
  by_cases c : u < 128
  · rw [enc_lt c]; simp
  · rw [enc_ge (by omega)]; simp

/-- All are bytes. -/
def Bys (l : List Int) : Prop := ∀ x ∈ l, 0 ≤ x ∧ x < 256
theorem Bys.nil : Bys [] := fun x h => by simp at h
theorem Bys.cons {x : Int} {l : List Int} (h : Bys (x :: l)) : (0 ≤ x ∧ x < 256) ∧ Bys l := ⟨h x (by simp), fun y hy => h y (by simp [hy])⟩
theorem Bys.mk {x : Int} {l : List Int} (a : 0 ≤ x) (b : x < 256) (h : Bys l) : Bys (x :: l) := fun y hy => by
  simp at hy
  rcases hy with rfl | hy
  · exact ⟨a, b⟩
  · exact h y hy
theorem Bys.app {a b : List Int} (h : Bys a) (k : Bys b) : Bys (a ++ b) := fun y hy => by
  simp at hy
  rcases hy with hy | hy
  · exact h y hy
  · exact k y hy
theorem Bys.drop {l : List Int} (h : Bys l) (k : Nat) : Bys (l.drop k) := fun y hy => h y (List.mem_of_mem_drop hy)
theorem Bys.take {l : List Int} (h : Bys l) (k : Nat) : Bys (l.take k) := fun y hy => h y (List.mem_of_mem_take hy)
theorem Bys.getD {l : List Int} (h : Bys l) (i : Nat) : 0 ≤ l.getD i 0 ∧ l.getD i 0 < 256 := by
  by_cases hi : i < l.length
  · have e : l.getD i 0 = l[i] := by simp [List.getD, hi]
    rw [e]; exact h _ (List.getElem_mem hi)
  · have e : l.getD i 0 = 0 := by simp [List.getD, show l.length ≤ i by omega]
    rw [e]; decide
theorem bys_enc : ∀ u : Nat, Bys (enc u) := by
  intro u
  induction u using Nat.strongRecOn with
  | ind u ih =>
    by_cases c : u < 128
    · rw [enc_lt c]; exact Bys.mk (by omega) (by omega) Bys.nil
    · rw [enc_ge (by omega)]; exact Bys.mk (by omega) (by omega) (ih _ (by omega))

/-- The number that bytes begin with, from its byte i on, and how many bytes it takes. -/
def dec (i acc : Nat) : List Int → Option (Nat × Nat)
  | [] => none
  | c :: r => if 9 < i then none else if 128 ≤ c then dec (i + 1) (acc + (c.toNat - 128) * 128 ^ i) r
    else if (0 < i ∧ c = 0) ∨ (i = 9 ∧ 1 < c) then none else some (acc + c.toNat * 128 ^ i, i + 1)
theorem dec_nil (i acc : Nat) : dec i acc [] = none := rfl
theorem dec_far {i acc : Nat} {l : List Int} (h : 9 < i) : dec i acc l = none := by
  cases l with
  | nil => rfl
  | cons c r => simp [dec, h]
theorem dec_more {i acc : Nat} {c : Int} {r : List Int} (h : i ≤ 9) (k : 128 ≤ c) : dec i acc (c :: r) = dec (i + 1) (acc + (c.toNat - 128) * 128 ^ i) r := by
  simp only [dec]; rw [if_neg (by omega), if_pos k]
theorem dec_bad {i acc : Nat} {c : Int} {r : List Int} (k : c < 128) (b : (0 < i ∧ c = 0) ∨ (i = 9 ∧ 1 < c)) : dec i acc (c :: r) = none := by
  simp only [dec]
  by_cases h : 9 < i
  · rw [if_pos h]
  · rw [if_neg h, if_neg (by omega), if_pos b]
theorem dec_last {i acc : Nat} {c : Int} {r : List Int} (h : i ≤ 9) (k : c < 128) (b : ¬ ((0 < i ∧ c = 0) ∨ (i = 9 ∧ 1 < c))) : dec i acc (c :: r) = some (acc + c.toNat * 128 ^ i, i + 1) := by
  simp only [dec]; rw [if_neg (by omega), if_neg (by omega), if_neg b]

theorem p128 {i : Nat} (h : i ≤ 9) : 128 ^ i ≤ 9223372036854775808 := Nat.le_trans (Nat.pow_le_pow_right (by decide) h) (by decide)
theorem p128' {i : Nat} (h : 9 ≤ i) : 9223372036854775808 ≤ 128 ^ i := Nat.le_trans (by decide) (Nat.pow_le_pow_right (by decide) h)

/-- What is written is read. -/
theorem dec_enc (r : List Int) : ∀ (u i acc : Nat), i ≤ 9 → (0 < i → 0 < u) → u * 128 ^ i < 18446744073709551616 → dec i acc (enc u ++ r) = some (acc + u * 128 ^ i, i + (enc u).length) := by
  intro u
  induction u using Nat.strongRecOn with
  | ind u ih =>
    intro i acc hi hp hl
    by_cases c : u < 128
    · rw [enc_lt c]
      show dec i acc ((u : Int) :: r) = _
      rw [dec_last hi (by omega) ?_]
      · simp
      · rintro (⟨a, b⟩ | ⟨a, b⟩)
        · have := hp a; omega
        · subst a
          have : (128 : Nat) ^ 9 = 9223372036854775808 := by decide
          rw [this] at hl
          omega
    · rw [enc_ge (by omega)]
      show dec i acc (((u % 128 + 128 : Nat) : Int) :: (enc (u / 128) ++ r)) = _
      rw [dec_more hi (by omega)]
      have hq : u / 128 * 128 ^ (i + 1) ≤ u * 128 ^ i := by
        rw [Nat.pow_succ, Nat.mul_comm (128 ^ i) 128, ← Nat.mul_assoc]
        exact Nat.mul_le_mul_right _ (by omega)
      have hi' : i + 1 ≤ 9 := by
        rcases Nat.lt_or_ge i 9 with q | q
        · omega
        · have e : i = 9 := by omega
          subst e
          have : (128 : Nat) ^ 9 = 9223372036854775808 := by decide
          rw [this] at hl
          omega
      rw [ih (u / 128) (by omega) (i + 1) _ hi' (fun _ => by omega) (by omega)]
      congr 1
      refine Prod.ext ?_ ?_
      · show acc + (((u % 128 + 128 : Nat) : Int).toNat - 128) * 128 ^ i + u / 128 * 128 ^ (i + 1) = acc + u * 128 ^ i
        have e : ((u % 128 + 128 : Nat) : Int).toNat - 128 = u % 128 := by omega
        rw [e, Nat.pow_succ, Nat.mul_comm (128 ^ i) 128, ← Nat.mul_assoc, Nat.add_assoc, ← Nat.add_mul]
        rw [show u % 128 + u / 128 * 128 = u by omega]
      · simp only [List.length_cons]; omega
theorem dec_enc0 {u : Nat} (h : u < 18446744073709551616) (r : List Int) : dec 0 0 (enc u ++ r) = some (u, (enc u).length) := by
  have := dec_enc r u 0 0 (by decide) (fun p => by omega) (by simpa using h)
  simpa using this

/-- What is read is a number of 64 bits, and no more bytes than there are. -/
theorem dec_ok : ∀ (l : List Int) (i acc u n : Nat), Bys l → acc < 128 ^ i → dec i acc l = some (u, n) → u < 18446744073709551616 ∧ i + 1 ≤ n ∧ n ≤ i + l.length := by
  intro l
  induction l with
  | nil => intro i acc u n _ _ h; simp [dec] at h
  | cons c r ih =>
    intro i acc u n hb ha h
    have hc := hb.cons.1
    by_cases h9 : 9 < i
    · rw [dec_far h9] at h; cases h
    · by_cases k : 128 ≤ c
      · rw [dec_more (by omega) k] at h
        have := ih (i + 1) _ u n hb.cons.2 ?_ h
        · simp only [List.length_cons]; omega
        · have p : (c.toNat - 128) * 128 ^ i ≤ 127 * 128 ^ i := Nat.mul_le_mul_right _ (by omega)
          rw [Nat.pow_succ]; omega
      · by_cases b : (0 < i ∧ c = 0) ∨ (i = 9 ∧ 1 < c)
        · rw [dec_bad (by omega) b] at h; cases h
        · rw [dec_last (by omega) (by omega) b] at h
          cases h
          refine ⟨?_, by omega, by simp⟩
          rcases Nat.lt_or_ge i 9 with q | q
          · have p : c.toNat * 128 ^ i ≤ 127 * 128 ^ i := Nat.mul_le_mul_right _ (by omega)
            have := p128 (show i + 1 ≤ 9 by omega)
            rw [Nat.pow_succ] at this
            omega
          · have e : i = 9 := by omega
            subst e
            have e9 : (128 : Nat) ^ 9 = 9223372036854775808 := by decide
            rw [e9] at ha ⊢
            omega

/-- What a Reader reads as a number; what is left; whether it could not. -/
def rU (l : List Int) : Nat := match dec 0 0 l with | none => 0 | some x => x.1
def rR (l : List Int) : List Int := match dec 0 0 l with | none => [] | some x => l.drop x.2
def rB (l : List Int) : Bool := match dec 0 0 l with | none => true | some _ => false
theorem rU_none {l : List Int} (h : dec 0 0 l = none) : rU l = 0 ∧ rR l = [] ∧ rB l = true := by unfold rU rR rB; rw [h]; exact ⟨rfl, rfl, rfl⟩
theorem rU_some {l : List Int} {u n : Nat} (h : dec 0 0 l = some (u, n)) : rU l = u ∧ rR l = l.drop n ∧ rB l = false := by unfold rU rR rB; rw [h]; exact ⟨rfl, rfl, rfl⟩
theorem rU_enc {u : Nat} (h : u < 18446744073709551616) (r : List Int) : rU (enc u ++ r) = u ∧ rR (enc u ++ r) = r ∧ rB (enc u ++ r) = false := by
  have := rU_some (dec_enc0 h r)
  simpa using this
theorem rU_lt {l : List Int} (h : Bys l) : rU l < 18446744073709551616 := by
  cases e : dec 0 0 l with
  | none => rw [(rU_none e).1]; decide
  | some x => rw [(rU_some (u := x.1) (n := x.2) e).1]; exact (dec_ok l 0 0 x.1 x.2 h (by decide) e).1
theorem rR_bys {l : List Int} (h : Bys l) : Bys (rR l) := by
  cases e : dec 0 0 l with
  | none => rw [(rU_none e).2.1]; exact Bys.nil
  | some x => rw [(rU_some (u := x.1) (n := x.2) e).2.1]; exact h.drop _
theorem rR_len (l : List Int) : (rR l).length ≤ l.length := by
  unfold rR
  cases dec 0 0 l with
  | none => simp
  | some x => simp

/-- With a sign. -/
def zig (v : Int) : Nat := if v < 0 then (-2 * v - 1).toNat else (2 * v).toNat
def zag (u : Nat) : Int := if u % 2 = 1 then -((u / 2 : Nat) : Int) - 1 else ((u / 2 : Nat) : Int)
theorem zag_zig (v : Int) : zag (zig v) = v := by unfold zag zig; split <;> split <;> omega
theorem zig_lt {v : Int} (h : -9223372036854775808 ≤ v) (k : v < 9223372036854775808) : zig v < 18446744073709551616 := by unfold zig; split <;> omega

/-- A text: its length, then its bytes. -/
def tU (l : List Int) : List Int := if (rR l).length < rU l then [] else (rR l).take (rU l)
def tR (l : List Int) : List Int := if (rR l).length < rU l then [] else (rR l).drop (rU l)
def tB (l : List Int) : Bool := rB l || decide ((rR l).length < rU l)
theorem tU_no {l : List Int} (h : (rR l).length < rU l) : tU l = [] ∧ tR l = [] ∧ tB l = true := by unfold tU tR tB; simp [h]
theorem tU_yes {l : List Int} (h : ¬ (rR l).length < rU l) : tU l = (rR l).take (rU l) ∧ tR l = (rR l).drop (rU l) ∧ tB l = rB l := by unfold tU tR tB; simp [h]
theorem tU_enc {s : List Int} (h : s.length < 18446744073709551616) (r : List Int) : tU (enc s.length ++ s ++ r) = s ∧ tR (enc s.length ++ s ++ r) = r ∧ tB (enc s.length ++ s ++ r) = false := by
  have e := rU_enc h (s ++ r)
  rw [← List.append_assoc] at e
  have n : ¬ (rR (enc s.length ++ s ++ r)).length < rU (enc s.length ++ s ++ r) := by rw [e.1, e.2.1]; simp
  have t := tU_yes n
  rw [t.1, t.2.1, t.2.2, e.1, e.2.1, e.2.2]
  simp

/-- No number's bytes begin another's. -/
theorem enc_apart : ∀ (a b n : Nat), n ≤ (enc a).length → n ≤ (enc b).length → (n = (enc a).length ∨ n = (enc b).length) → (enc a).take n = (enc b).take n → a = b := by
  intro a
  induction a using Nat.strongRecOn with
  | ind a ih =>
    intro b n h1 h2 hm h
    have ea := enc_pos a
    have eb := enc_pos b
    obtain ⟨m, rfl⟩ : ∃ m, n = m + 1 := ⟨n - 1, by omega⟩
    by_cases ca : a < 128
    · by_cases cb : b < 128
      · rw [enc_lt ca, enc_lt cb] at h; simp at h; omega
      · rw [enc_lt ca, enc_ge (by omega)] at h; simp at h; omega
    · by_cases cb : b < 128
      · rw [enc_ge (by omega), enc_lt cb] at h; simp at h; omega
      · rw [enc_ge (show 128 ≤ a by omega)] at h h1 hm
        rw [enc_ge (show 128 ≤ b by omega)] at h h2 hm
        simp only [List.take_succ_cons, List.cons.injEq, List.length_cons] at h h1 h2 hm
        have := ih (a / 128) (by omega) (b / 128) m (by omega) (by omega) (by omega) h.2
        omega
theorem enc_mono : ∀ (a b : Nat), a ≤ b → (enc a).length ≤ (enc b).length := by
  intro a
  induction a using Nat.strongRecOn with
  | ind a ih =>
    intro b h
    by_cases ca : a < 128
    · rw [enc_lt ca]; exact enc_pos b
    · rw [enc_ge (show 128 ≤ a by omega), enc_ge (show 128 ≤ b by omega), List.length_cons, List.length_cons]
      have := ih (a / 128) (by omega) (b / 128) (by omega)
      omega

end Go.Proofs.Ythdjghmipepppaa

namespace Go.Proofs.Ythdjghmipepppaa
open Go.RowKit
set_option linter.unusedVariables false
set_option linter.unusedSimpArgs false

/-- Bytes in memory: a slice of n of them. -/
structure By (w : World) (a : Option Addr) (n cap : Nat) (bs : List Int) : Prop where
  len : bs.length = n
  fits : n ≤ cap
  max : cap ≤ maxLen
  nil : a = none → cap = 0
  cell : ∃ b o : Nat, (0 < n → a = some ⟨b, o, none⟩) ∧ ∀ i, i < n → w.cell? ⟨b, o + i, none⟩ = some (.int .u8 (bs.getD i 0))
  ok : Bys bs

theorem By.old {w : World} {a : Option Addr} {n cap : Nat} {bs : List Int} (h : By w a n cap bs) : 0 < n → ∀ x, a = some x → x.block < w.heap.size := by
  intro p x hx
  obtain ⟨b, o, h1, h2⟩ := h.cell
  have := World.block_lt_of_cell? _ _ (h2 0 p)
  rw [h1 p] at hx
  simp at hx
  subst hx
  exact this
/-- What happens in other blocks leaves them. -/
theorem By.kept {w w' : World} {a : Option Addr} {n cap : Nat} {bs : List Int} (h : By w a n cap bs) (hk : 0 < n → ∀ x, a = some x → w'.heap[x.block]? = w.heap[x.block]?) : By w' a n cap bs := by
  obtain ⟨b, o, h1, h2⟩ := h.cell
  refine ⟨h.len, h.fits, h.max, h.nil, ⟨b, o, h1, fun i hi => ?_⟩, h.ok⟩
  have := hk (by omega) _ (h1 (by omega))
  rw [World.cell?_of_block (w := w) (a := ⟨b, o + i, none⟩) this]
  exact h2 i hi
theorem By.below {w w' : World} {a : Option Addr} {n cap : Nat} {bs : List Int} (h : By w a n cap bs) (hb : Below w.heap.size w w') : By w' a n cap bs :=
  h.kept fun p x hx => hb.block x.block (h.old p x hx)
theorem By.grown {w w' : World} {a : Option Addr} {n cap : Nat} {bs : List Int} {row : Option Nat} (h : By w a n cap bs) (hg : w.grownBy w' row) (hne : 0 < n → ∀ x, a = some x → some x.block ≠ row) : By w' a n cap bs :=
  h.kept fun p x hx => hg.block x.block (h.old p x hx) (hne p x hx)
theorem By.none_nil {w : World} {n cap : Nat} {bs : List Int} (h : By w none n cap bs) : n = 0 ∧ cap = 0 ∧ bs = [] := by
  have c := h.nil rfl
  have f := h.fits
  exact ⟨by omega, c, List.length_eq_zero_iff.1 (by rw [h.len]; omega)⟩
theorem By.empty (w : World) : By w none 0 0 [] := ⟨rfl, Nat.le_refl _, Nat.zero_le _, fun _ => rfl, ⟨0, 0, fun p => absurd p (Nat.lt_irrefl 0), fun i hi => absurd hi (Nat.not_lt_zero i)⟩, Bys.nil⟩

theorem byteInfo : (Try.prog.info? 5).map (fun i => (i.zero, i.size, i.bytes)) = some (some (.int .u8 0), 1, 1) := by kernel_rfl

/-- Bytes of a call's own. -/
structure Own (w : World) (base : Nat) (v : Value) (bs : List Int) : Prop where
  row : w.ownsRow base 5 1 v bs.length (bs.map (Value.int .u8))
  ok : Bys bs
theorem Own.by {w : World} {base : Nat} {v : Value} {bs : List Int} (h : Own w base v bs) : ∃ a cap, v = .slice a bs.length cap ∧ By w a bs.length cap bs ∧ (∀ x, a = some x → base ≤ x.block ∧ x.block < w.heap.size) ∧ (a = none ∨ ∃ g, a = some ⟨g, 0, none⟩) := by
  have hh := h.row
  obtain ⟨h1, h2⟩ := h.row
  rcases h2 with ⟨rfl, h3⟩ | ⟨g, cap, cur, rfl, hb, hg, hn, hm, hs, ht⟩
  · have : bs = [] := List.length_eq_zero_iff.1 h3
    subst this
    exact ⟨none, 0, rfl, By.empty w, fun x hx => by simp at hx, Or.inl rfl⟩
  · refine ⟨_, cap, rfl, ⟨rfl, hn, hm, fun e => by simp at e, ⟨g, 0, fun _ => rfl, fun i hi => ?_⟩, h.ok⟩, fun x hx => by simp at hx; subst hx; exact ⟨hb, (Array.getElem?_eq_some_iff.1 hg).1⟩, Or.inr ⟨g, rfl⟩⟩
    have e := hh.cellAt i (by omega)
    rw [Nat.zero_add, e]
    simp [List.getD, hi]
theorem Own.below {w w' : World} {base : Nat} {v : Value} {bs : List Int} (h : Own w base v bs) (hb : Below w.heap.size w w') : Own w' base v bs := by
  refine ⟨⟨h.row.1, ?_⟩, h.ok⟩
  rcases h.row.2 with hn | ⟨g, cap, cur, rfl, hbb, hgg, rest⟩
  · exact .inl hn
  · exact .inr ⟨g, cap, cur, rfl, hbb, by rw [hb.block g (Array.getElem?_eq_some_iff.1 hgg).1]; exact hgg, rest⟩
theorem Own.mono {w : World} {base b' : Nat} {v : Value} {bs : List Int} (h : Own w base v bs) (hb : b' ≤ base) : Own w b' v bs := by
  refine ⟨⟨h.row.1, ?_⟩, h.ok⟩
  rcases h.row.2 with hn | ⟨g, cap, cur, rfl, hbb, rest⟩
  · exact .inl hn
  · exact .inr ⟨g, cap, cur, rfl, by omega, rest⟩
theorem Own.nil (w : World) (base : Nat) : Own w base (.slice none 0 0) [] := ⟨World.ownsRow_nil w base 5 1, Bys.nil⟩
/-- What a call leaves of its own: new memory, all below kept. -/
theorem grown_new {W w w' : World} {v : Value} {bs : List Int} {B : Nat} (hbl : Below B W w) (hB : B ≤ w.heap.size) (h : Own w B v bs) (hg : w.grownBy w' v.ownBlock) : Below B W w' ∧ B ≤ w'.heap.size :=
  ⟨hbl.grown hg hB (fun k hk => (h.row.lt k hk).1), by have := hg.size; omega⟩

/-- Bytes as cells. -/
theorem bytes_one (bs : List Int) : ∀ u ∈ bs.map (Value.int .u8), u.oneCell' = true := by
  intro u hu
  obtain ⟨_, _, rfl⟩ := List.mem_map.1 hu
  rfl
theorem By.news {w : World} {x : Addr} {n cap : Nat} {bs : List Int} (h : By w (some x) n cap bs) : ∀ j u, (bs.map (Value.int .u8))[j]? = some u → w.cell? (x.add j) = some u := by
  intro j u hj
  obtain ⟨b, o, h1, h2⟩ := h.cell
  have hjl : j < bs.length := by
    rcases Nat.lt_or_ge j bs.length with q | q
    · exact q
    · simp [List.getElem?_eq_none (show (bs.map (Value.int .u8)).length ≤ j by simpa using q)] at hj
  have hn : j < n := by rw [← h.len]; exact hjl
  have e := h1 (by omega)
  simp at e
  subst e
  have hplain : (⟨b, o, none⟩ : Addr).add j = ⟨b, o + j, none⟩ := by unfold Addr.add; split <;> simp_all
  rw [hplain, h2 j hn]
  simp [List.getElem?_eq_getElem hjl] at hj
  subst hj
  simp [List.getD, List.getElem?_eq_getElem hjl]

section
variable {w : World} {ops : Array Oper} {rest : List Oper} {o : Oper} {a : Act} {Q : Exit → Act → World → Prop}
/-- 'append(x, bs...)', x a call's own, bs whatever bytes. -/
theorem wpList_append_by (hgd : o.guard = none) (s x : Operand) (ho : o.op = .call { callee := .builtin .append, args := #[s, x], argTypes := #[31, 31] })
    (base : Nat) (v : Value) (xs : List Int) (hs : a.eval s = v) (hown : Own w base v xs) (ad : Option Addr) (m c : Nat) (bs : List Int) (hx : a.eval x = .slice ad m c) (hb : By w ad m c bs)
    (hbytes : xs.length + m ≤ 1000000) (hbase : base ≤ w.heap.size)
    (h : ∀ v' w', Own w' base v' (xs ++ bs) → w.grownBy w' v.ownBlock → wpList Try.prog ops Q rest (a.put o.dst v') w') : wpList Try.prog ops Q (o :: rest) a w := by
  obtain ⟨i0, hi, hz0, hz1, hz2⟩ := info_parts byteInfo
  cases ad with
  | none =>
    obtain ⟨rfl, rfl, rfl⟩ := hb.none_nil
    exact wpList_append_own_none hgd s x 31 ho base 5 i0 1 Try.underlying31 hi v _ _ hs hown.row hx (by simpa using h v w (by simpa using hown) (World.grownBy.refl w _))
  | some ad =>
    refine wpList_append_own w hgd s x 31 ho base 5 i0 (.int .u8 0) 1 1 Try.underlying31 hi hz0 hz1 hz2 rfl (by decide) v _ _ hs hown.row ad m c (bs.map (Value.int .u8)) hx (by simp [hb.len]) hb.news (bytes_one bs) (by unfold maxLen; omega) (by omega) hbase ?_
    intro v' w' ho' hg _
    refine h v' w' ⟨?_, hown.ok.app hb.ok⟩ hg
    have e : (xs ++ bs).length = xs.length + m := by simp [hb.len]
    rw [e, List.map_append]
    exact ho'
end

/-- The string of bytes in memory. -/
theorem By.str {w : World} {a : Option Addr} {n cap : Nat} {bs : List Int} (h : By w a n cap bs) : (convert 31 9 (.slice a n cap)).run Try.prog w = .ok (.string (strOfNums bs)) w := by
  cases a with
  | none =>
    obtain ⟨rfl, rfl, rfl⟩ := h.none_nil
    exact run_convert_bytes_nil (P := Try.prog) w 31 5 Try.underlying31 Try.underlying5 0 0 9 Try.underlying9
  | some x =>
    obtain ⟨b, o, h1, h2⟩ := h.cell
    rcases Nat.eq_zero_or_pos n with q | q
    · subst q
      have : bs = [] := List.length_eq_zero_iff.1 h.len
      subst this
      obtain ⟨xb, xo, xp⟩ := x
      rw [run_convert_bytes_string w 31 9 5 _ 0 cap Try.underlying31 Try.underlying5 Try.underlying9]
      rw [run_bytesToString w _ 0 cap [] (by simp [loadCells, loadCellsFrom])]
      rfl
    · have e := h1 q
      simp at e
      subst e
      exact run_convert_bytes_arg (P := Try.prog) w 31 5 Try.underlying31 Try.underlying5 b o n cap bs h.len h2 9 Try.underlying9

end Go.Proofs.Ythdjghmipepppaa

namespace Go.Proofs.Ythdjghmipepppaa
open Go.RowKit
set_option linter.unusedVariables false
set_option linter.unusedSimpArgs false

set_option maxHeartbeats 1000000 in
theorem copied_any (a : Option Addr) (n cap k : Nat) (bs : List Int) (w : World) (h : By w a n cap bs) (hn : n ≤ 100000) (hk : k ≤ 100000) :
    Calls Try.prog 75 #[.slice a n cap, .int .i64 k] w fun e w' => (∃ v, e = .returned v ∧ Own w' w.heap.size v bs) ∧ Below w.heap.size w w' := by
  obtain ⟨i0, hi, hz0, hz1, hz2⟩ := info_parts byteInfo
  have H : Hid _ := h
  have HI : Hid _ := hi
  have HZ : Hid _ := And.intro hz0 (And.intro hz1 hz2)
  clear h hi hz0 hz1 hz2
  go_enter Try.func75, Try.ntmps75
  go_wp2_with (first | (at_make; refine wpList_make_own _ rfl _ _ 31 rfl w.heap.size 5 i0 (.int .u8 0) 1 Try.underlying31 HI.out HZ.out.1 HZ.out.2.1 .i64 .i64 _ (n + k) rfl rfl (by omega) (by rw [HZ.out.2.2]; omega) (by unfold maxLen; omega) (Nat.le_refl _) ?_; intro w1 o1 g1) | (at_builtin; refine wpList_append_by rfl (.tmp 9) (.tmp 10) rfl w.heap.size _ [] rfl ⟨o1, Bys.nil⟩ a n cap bs rfl (H.out.grown g1 (fun _ _ _ => by simp)) (by simp; omega) g1.size ?_; intro v2 w2 o2 g2))
  go_ret
  rw [List.nil_append] at o2
  have B1 : Below w.heap.size w w1 := (Below.refl _ _).grown g1 (Nat.le_refl _) (fun k hk => by cases hk)
  exact ⟨⟨v2, rfl, o2⟩, B1.grown g2 g1.size (fun k hk => (o1.lt k hk).1)⟩

/-- One byte in a block of its own. -/
theorem by_new (w : World) (x : Int) (t : TypeId) (h0 : 0 ≤ x) (h1 : x < 256) : By (w.alloc (.cells #[.int .u8 x] t)) (some ⟨w.heap.size, 0, none⟩) 1 1 [x] :=
  ⟨rfl, Nat.le_refl _, by decide, fun e => by simp at e, ⟨w.heap.size, 0, fun _ => rfl, fun i hi => by
    obtain rfl : i = 0 := by omega
    simp⟩, Bys.mk h0 h1 Bys.nil⟩

theorem or128 (x : Nat) : bits .or .u8 ((x : Int) % 256) 128 = ((x % 128 + 128 : Nat) : Int) := by
  have e : (x : Int) % 256 = ((x % 256 : Nat) : Int) := by omega
  have h := u8_or_nat (x % 256) 128 (by omega) (by omega)
  rw [e]
  rw [show ((128 : Nat) : Int) = 128 from rfl] at h
  rw [h]
  have key : ∀ y : Fin 256, y.val ||| 128 = y.val % 128 + 128 := by decide +kernel
  have := key ⟨x % 256, by omega⟩
  simp only at this
  rw [this]
  omega

set_option maxHeartbeats 1000000 in
theorem number_own (v : Value) (u base : Nat) (bs : List Int) (w : World) (h : Own w base v bs) (hB : base ≤ w.heap.size) (hn : bs.length ≤ 300000) (hu : u < 18446744073709551616) :
    Calls Try.prog 74 #[v, .int .u64 u] w fun e w' => (∃ v', e = .returned v' ∧ Own w' base v' (bs ++ enc u)) ∧ Below base w w' := by
  have L10 : Hid _ := enc_len10 hu
  have H : Hid _ := h
  clear h
  go_enter Try.func74, Try.ntmps74
  go_wp2_with fail
  go_loopg [0, 1] u (fun g vv uv wr => ∃ (x : Nat) (pre : List Int), uv = .int .u64 x ∧ g = x ∧ x < 18446744073709551616 ∧ Hid (Own wr base vv (bs ++ pre)) ∧ Hid (enc u = pre ++ enc x) ∧ Hid (Below base w wr) ∧ base ≤ wr.heap.size)
  case atStart => exact ⟨u, [], rfl, rfl, hu, by simpa using H, rfl, Below.refl _ _, hB⟩
  case round =>
    obtain ⟨x, pre, rfl, rfl, hx, hO, hE, hL, hS⟩ := hrel
    have hpl : Hid (pre.length ≤ 9) := by
      have e := L10.out
      rw [hE.out, List.length_append] at e
      have := enc_pos gk
      show pre.length ≤ 9
      omega
    by_cases c : gk < 128
    · have c' : ¬ (128 : Int) ≤ (gk : Int) := by omega
      have m8 : (gk : Int) % 256 = gk := by omega
      go_wp2_with (at_builtin; refine wpList_append_by rfl (.tmp 15) (.tmp 18) rfl base _ (bs ++ pre) rfl (hO.out.below ((Below.refl _ _).alloc (Nat.le_refl _) _)) (some ⟨wr.heap.size, 0, none⟩) 1 1 [(gk : Int)] rfl (by_new _ _ _ (by omega) (by omega)) (by have := hpl.out; simp; omega) (by simp; omega) ?_; intro v2 w2 o2 g2)
      go_ret
      rw [List.append_assoc, ← enc_lt c, ← hE.out] at o2
      have B2 := (hL.out.alloc hS (.cells #[.int .u8 (gk : Int)] 5)).grown g2 (by simp; omega) (fun k hk => (hO.out.row.lt k hk).1)
      exact ⟨⟨v2, rfl, o2⟩, B2⟩
    · have c' : (128 : Int) ≤ (gk : Int) := by omega
      have o8 := or128 gk
      obtain ⟨y, hy⟩ : ∃ y : Int, y = ((gk % 128 + 128 : Nat) : Int) := ⟨_, rfl⟩
      obtain ⟨q, hq⟩ : ∃ q : Nat, q = gk / 128 := ⟨_, rfl⟩
      have sh : (gk : Int) / 128 = (q : Int) := by omega
      rw [← hy] at o8
      have Y : Hid _ := hy
      have Q : Hid _ := hq
      have E2 : Hid (enc u = (pre ++ [y]) ++ enc q) := by show enc u = _; rw [hE.out, enc_ge (by omega), hy, hq]; simp
      have y0 : Hid (0 ≤ y ∧ y < 256) := by show 0 ≤ y ∧ y < 256; omega
      have qg : Hid (q < gk) := by show q < gk; omega
      clear hy hq
      go_wp2_with (at_builtin; refine wpList_append_by rfl (.tmp 7) (.tmp 11) rfl base _ (bs ++ pre) rfl (hO.out.below ((Below.refl _ _).alloc (Nat.le_refl _) _)) (some ⟨wr.heap.size, 0, none⟩) 1 1 [y] rfl (by_new _ _ _ y0.out.1 y0.out.2) (by have := hpl.out; simp; omega) (by simp; omega) ?_; intro v2 w2 o2 g2)
      go_roundg q
      case measure => exact qg.out
      case rel =>
        rw [List.append_assoc] at o2
        have B2 := (hL.out.alloc hS (.cells #[.int .u8 y] 5)).grown g2 (by simp; omega) (fun k hk => (hO.out.row.lt k hk).1)
        exact ⟨q, pre ++ [y], rfl, rfl, by have := qg.out; omega, o2, E2.out, B2, by have := g2.size; simp at this; omega⟩

end Go.Proofs.Ythdjghmipepppaa

namespace Go.Proofs.Ythdjghmipepppaa
open Go.RowKit
set_option linter.unusedVariables false
set_option linter.unusedSimpArgs false

/-- Bytes are returned, in new memory. -/
def New (w w' : World) (e : Ending) (bs : List Int) : Prop := (∃ v, e = .returned v ∧ Own w' w.heap.size v bs) ∧ Below w.heap.size w w'
theorem nextB {w w1 w2 : World} (h1 : Below w.heap.size w w1) (h2 : Below w1.heap.size w1 w2) : Below w.heap.size w w2 := h1.trans (h2.mono h1.size)

set_option maxHeartbeats 1000000 in
theorem pU_any (a : Option Addr) (n cap u : Nat) (bs : List Int) (w : World) (h : By w a n cap bs) (hn : n ≤ 100000) (hu : u < 18446744073709551616) :
    Calls Try.prog 50 #[.slice a n cap, .int .u64 u] w fun e w' => New w w' e (bs ++ enc u) := by
  have H : Hid _ := h
  clear h
  go_enter Try.func50, Try.ntmps50
  go_wp2_with (first | (go_at_call 75; refine (copied_any a n cap 10 bs w H.out hn (by omega)).mono ?_; rintro e w1 ⟨⟨v1, rfl, o1⟩, b1⟩) | (go_at_call 74; refine (number_own v1 u w.heap.size bs w1 o1 b1.size (by rw [H.out.len]; omega) hu).mono ?_; rintro e w2 ⟨⟨v2, rfl, o2⟩, b2⟩))
  go_ret
  exact ⟨⟨v2, rfl, o2⟩, b1.trans b2⟩

/-- A text's bytes. -/
def nums (s : ByteArray) : List Int := s.data.toList.map fun b => (b.toNat : Int)
theorem nums_len (s : ByteArray) : (nums s).length = s.size := by
  unfold nums
  rw [List.length_map, Array.length_toList]
  rfl
theorem nums_cells (s : ByteArray) : Lib.strCells s = (nums s).map (Value.int .u8) := by simp [Lib.strCells, nums]
theorem nums_bys (s : ByteArray) : Bys (nums s) := by
  intro x hx
  obtain ⟨b, _, rfl⟩ := List.mem_map.1 hx
  have := b.toNat_lt
  omega
theorem nums_str (s : ByteArray) : strOfNums (nums s) = s := by
  unfold strOfNums nums
  obtain ⟨⟨l⟩⟩ := s
  congr 2
  simp only [List.map_map]
  conv => rhs; rw [← List.map_id l]
  apply List.map_congr_left
  intro b _
  simp
theorem str_nums {bs : List Int} (h : Bys bs) : nums (strOfNums bs) = bs := by
  unfold nums
  rw [strOfNums_data, List.map_map]
  induction bs with
  | nil => rfl
  | cons x r ih =>
    rw [List.map_cons, ih h.cons.2]
    congr 1
    have := h.cons.1
    simp
    omega

set_option maxHeartbeats 1000000 in
theorem pS_any (a : Option Addr) (n cap : Nat) (s : ByteArray) (bs : List Int) (w : World) (h : By w a n cap bs) (hn : n ≤ 90000) (hs : s.size ≤ 10000) :
    Calls Try.prog 49 #[.slice a n cap, .string s] w fun e w' => New w w' e (bs ++ enc s.size ++ nums s) := by
  obtain ⟨i0, hi, hz0, hz1, hz2⟩ := info_parts byteInfo
  have HI : Hid _ := hi
  have HZ : Hid _ := And.intro hz0 (And.intro hz1 hz2)
  have H : Hid _ := h
  have L10 : Hid _ := enc_len10 (show s.size < 18446744073709551616 by omega)
  clear h hi hz0 hz1 hz2
  go_enter Try.func49, Try.ntmps49
  go_wp2_with (first | (go_at_call 75; refine (copied_any a n cap (10 + s.size) bs w H.out (by omega) (by omega)).mono ?_; rintro e w1 ⟨⟨v1, rfl, o1⟩, b1⟩) | (go_at_call 74; refine (number_own v1 s.size w.heap.size bs w1 o1 b1.size (by rw [H.out.len]; omega) (by omega)).mono ?_; rintro e w2 ⟨⟨v2, rfl, o2⟩, b2⟩) | (at_builtin; refine Lib.wpList_append_own_string _ rfl (.tmp 13) (.tmp 14) 31 9 rfl w.heap.size 5 i0 Try.underlying31 Try.underlying9 HI.out HZ.out.1 HZ.out.2.1 HZ.out.2.2 v2 _ _ rfl o2.row s rfl (by have := L10.out; have := H.out.len; simp; unfold maxLen; omega) (by have := L10.out; have := H.out.len; simp; omega) (Nat.le_trans b1.size b2.size) ?_; intro v3 w3 o3 g3 _))
  go_ret
  have B : Below w.heap.size w w2 := b1.trans b2
  refine ⟨⟨v3, rfl, ⟨?_, (o2.ok.app (nums_bys s))⟩⟩, B.grown g3 (Nat.le_trans b1.size b2.size) (fun k hk => (o2.row.lt k hk).1)⟩
  rw [nums_cells, ← List.map_append] at o3
  have e : (bs ++ enc s.size ++ nums s).length = (bs ++ enc s.size).length + s.size := by rw [List.length_append, nums_len]
  rw [e]
  exact o3

end Go.Proofs.Ythdjghmipepppaa

namespace Go.Proofs.Ythdjghmipepppaa
open Go.RowKit
set_option linter.unusedVariables false
set_option linter.unusedSimpArgs false

theorem retV {a b : Value} (h : a = b) : Ending.returned a = .returned b := by rw [h]
theorem drop_cons {bs : List Int} {k y : Nat} (h : k < bs.length) (e : (y : Int) = bs.getD k 0) : bs.drop k = (y : Int) :: bs.drop (k + 1) := by
  have : bs.getD k 0 = bs[k] := by simp [List.getD, h]
  rw [e, this, List.drop_eq_getElem_cons h]

end Go.Proofs.Ythdjghmipepppaa

namespace Go.Proofs.Ythdjghmipepppaa
open Go.RowKit
set_option linter.unusedVariables false
set_option linter.unusedSimpArgs false

theorem grownBy_trans {a b c : World} {r : Option Nat} (h : a.grownBy b r) (k : b.grownBy c r) : a.grownBy c r :=
  ⟨k.os.trans h.os, k.tape.trans h.tape, k.output.trans h.output, Nat.le_trans h.size k.size, fun i hi hne => (k.block i (Nat.lt_of_lt_of_le hi h.size) hne).trans (h.block i hi hne)⟩
theorem grownBy_setCell (w : World) (p o : Nat) (v : Value) : w.grownBy (w.setCell ⟨p, o, none⟩ v) (some p) :=
  ⟨rfl, rfl, rfl, by simp, fun k _ hk => Below.heap_setCell w ⟨p, o, none⟩ v k (fun e => hk (by rw [e]))⟩

/-- Bytes cut at their begin. -/
theorem By.drop {w : World} {b o n cap : Nat} {bs : List Int} (h : By w (some ⟨b, o, none⟩) n cap bs) {k : Nat} (hk : k ≤ n) {o' : Nat} (ho : k < n → o' = o + k) : By w (some ⟨b, o', none⟩) (n - k) (cap - k) (bs.drop k) := by
  obtain ⟨b', o0, h1, h2⟩ := h.cell
  have hl := h.len
  have hf := h.fits
  have hm := h.max
  refine ⟨by simp; omega, by omega, by omega, fun e => by simp at e, ⟨b, o', fun _ => rfl, fun i hi => ?_⟩, h.ok.drop k⟩
  have e := h1 (by omega)
  simp at e
  obtain ⟨rfl, rfl⟩ := e
  rw [ho (by omega), Nat.add_assoc, h2 (k + i) (by omega)]
  simp [List.getD]

/-- Bytes cut at their end. -/
theorem By.take {w : World} {b o n cap : Nat} {bs : List Int} (h : By w (some ⟨b, o, none⟩) n cap bs) {k : Nat} (hk : k ≤ n) : By w (some ⟨b, o, none⟩) k cap (bs.take k) := by
  obtain ⟨b', o0, h1, h2⟩ := h.cell
  have hl := h.len
  have hf := h.fits
  refine ⟨by simp; omega, by omega, h.max, fun e => by simp at e, ⟨b, o, fun _ => rfl, fun i hi => ?_⟩, h.ok.take k⟩
  have e := h1 (by omega)
  simp at e
  obtain ⟨rfl, rfl⟩ := e
  rw [h2 i (by omega)]
  have : (bs.take k).getD i 0 = bs.getD i 0 := by simp [List.getD, hi]
  rw [this]
theorem retS {a b : ByteArray} (h : a = b) : Ending.returned (.string a) = .returned (.string b) := by rw [h]

end Go.Proofs.Ythdjghmipepppaa

namespace Go.Proofs.Ythdjghmipepppaa
open Go.RowKit
set_option linter.unusedVariables false
set_option linter.unusedSimpArgs false

theorem own_empty (w : World) : Own (w.alloc (.cells #[] 5)) w.heap.size (.slice (some ⟨w.heap.size, 0, none⟩) 0 0) [] :=
  ⟨⟨rfl, .inr ⟨w.heap.size, 0, #[], rfl, Nat.le_refl _, heap_alloc_new w _, Nat.le_refl _, Nat.zero_le _, rfl, rfl⟩⟩, Bys.nil⟩
theorem allocB (w : World) (o : Obj) : Below w.heap.size w (w.alloc o) := (Below.refl _ _).alloc (Nat.le_refl _) _

theorem eq_nil (w : World) (a : Option Addr) (l c : Nat) : (binOp .eql 31 (.slice a l c) (.slice none 0 0)).run Try.prog w = .ok (.bool a.isNone) w := by
  have h : ∀ d : Nat, (Op.equalIn (d + 1) 31 (.slice a l c) (.slice none 0 0)).run Try.prog w = .ok a.isNone w := fun d => by
    cases a <;> simp [Op.equalIn, run_underlying Try.underlying31]
  simp only [binOp]
  simp [Op.equal, Op.maxDepth, h 9999]

end Go.Proofs.Ythdjghmipepppaa

