/- Plain mathematics and memory for the quotient of two numbers by digits, bit by bit. -/
import Derived.Test.YtlgdolchnlagcaaB8
namespace Go.Proofs.Ytlgdolchnlagcaa
open Go.RowKit Go.Deep
set_option linter.unusedVariables false

def p2 : Nat → Int
  | 0 => 1
  | n + 1 => 2 * p2 n
theorem p2_pos (n : Nat) : 0 < p2 n := by
  induction n with
  | zero => decide
  | succ n ih => unfold p2; omega
theorem p2_add (a b : Nat) : p2 (a + b) = p2 a * p2 b := by
  induction a with
  | zero => simp [p2]
  | succ a ih => rw [show a + 1 + b = (a + b) + 1 by omega]; simp only [p2]; rw [ih, Int.mul_assoc]
theorem p2_16 (t : Nat) : p2 (16 * t) = pw t := by
  induction t with
  | zero => rfl
  | succ t ih => rw [show 16 * (t + 1) = 16 + 16 * t by omega, p2_add, ih]; rfl
theorem p2_pow (n : Nat) : p2 n = (2 : Int) ^ n := by
  induction n with
  | zero => rfl
  | succ n ih => rw [Int.pow_succ, ← ih]; simp only [p2]; omega
theorem p2_le {a b : Nat} (h : a ≤ b) : p2 a ≤ p2 b := by
  obtain ⟨c, rfl⟩ := Nat.exists_eq_add_of_le h
  rw [p2_add]
  have p := p2_pos a
  have q := p2_pos c
  have := Int.mul_le_mul_of_nonneg_left (show (1 : Int) ≤ p2 c by omega) (show 0 ≤ p2 a by omega)
  omega

theorem drop_cons' (ds : List Int) (k : Nat) : dval (ds.drop k) = ds.getD k 0 + 65536 * dval (ds.drop (k + 1)) := by
  by_cases h : k < ds.length
  · exact drop_cons ds k h
  · rw [List.drop_of_length_le (by omega), List.drop_of_length_le (by omega)]
    have e : ds.getD k 0 = 0 := by simp [List.getD, show ds.length ≤ k by omega]
    rw [e]; rfl
/-- The bit of a number. -/
theorem bit_of {da : List Int} (ok : DsOk da) (t s : Nat) (hs : s < 16) : dval da / p2 (16 * t + s) % 2 = da.getD t 0 / p2 s % 2 := by
  have e := dval_drop da t
  have l0 := low_nonneg ok t
  have l1 := low_lt ok t
  have p := pw_pos t
  have q := p2_pos s
  have d1 : dval da / pw t = dval (da.drop t) := by
    rw [e, Int.add_mul_ediv_left _ _ (by omega), Int.ediv_eq_zero_of_lt l0 l1]; omega
  rw [p2_add, p2_16, ← Int.ediv_ediv_of_nonneg (show 0 ≤ pw t by omega), d1, drop_cons']
  have f : (65536 : Int) = p2 s * (2 * p2 (15 - s)) := by
    have : p2 (s + ((15 - s) + 1)) = p2 s * p2 ((15 - s) + 1) := p2_add _ _
    rw [show s + ((15 - s) + 1) = 16 by omega] at this
    have g : p2 16 = 65536 := by decide
    rw [g] at this
    exact this
  rw [f, Int.mul_assoc, Int.add_mul_ediv_left _ _ (by omega), Int.mul_assoc]
  omega

/-- One more bit. -/
theorem div_step {A B Q R : Int} {k : Nat} (h : A / p2 (k + 1) = Q * B + R) : A / p2 k = 2 * Q * B + (2 * R + A / p2 k % 2) := by
  have e : A / p2 (k + 1) = A / p2 k / 2 := by
    rw [Int.ediv_ediv_of_nonneg (show 0 ≤ p2 k by have := p2_pos k; omega), Int.mul_comm]; rfl
  rw [e] at h
  have m : 2 * (Q * B) = 2 * Q * B := by rw [Int.mul_assoc]
  omega
theorem div_more {A B Q R : Int} {k : Nat} (h : A / p2 k = 2 * Q * B + R) : A / p2 k = (2 * Q + 1) * B + (R - B) := by
  rw [h, Int.add_mul]; omega

/-- Below the bit nothing stands. -/
def Lowz (qs : List Int) (j : Nat) : Prop := ∀ t, (16 * t + 16 ≤ j → qs.getD t 0 = 0) ∧ (16 * t ≤ j → j < 16 * t + 16 → ∃ c, 0 ≤ c ∧ qs.getD t 0 = p2 (j - 16 * t) * c)
theorem Lowz.at {qs : List Int} (ok : DsOk qs) {t s : Nat} (hs : s < 16) (h : Lowz qs (16 * t + s + 1)) : ∃ c, 0 ≤ c ∧ qs.getD t 0 = p2 (s + 1) * c := by
  obtain ⟨h1, h2⟩ := h t
  by_cases c : s = 15
  · exact ⟨0, by omega, by rw [h1 (by omega)]; omega⟩
  · obtain ⟨c, c0, e⟩ := h2 (by omega) (by omega)
    exact ⟨c, c0, by rw [e, show 16 * t + s + 1 - 16 * t = s + 1 by omega]⟩
theorem Lowz.keep {qs : List Int} (ok : DsOk qs) {t s : Nat} (hs : s < 16) (h : Lowz qs (16 * t + s + 1)) : Lowz qs (16 * t + s) := by
  intro u
  refine ⟨fun l => (h u).1 (by omega), fun l1 l2 => ?_⟩
  have e : u = t := by omega
  subst e
  obtain ⟨c, c0, e⟩ := h.at ok hs
  refine ⟨2 * c, by omega, ?_⟩
  rw [e, show 16 * u + s - 16 * u = s by omega]
  simp only [p2]
  rw [Int.mul_comm 2, Int.mul_assoc]
theorem Lowz.set {qs : List Int} (ok : DsOk qs) {t s : Nat} (hs : s < 16) (ht : t < qs.length) (h : Lowz qs (16 * t + s + 1)) : Lowz (qs.set t (qs.getD t 0 + p2 s)) (16 * t + s) := by
  intro u
  rw [getD_set _ _ _ _ ht]
  refine ⟨fun l => ?_, fun l1 l2 => ?_⟩
  · rw [if_neg (by omega)]; exact (h u).1 (by omega)
  · have e : u = t := by omega
    subst e
    obtain ⟨c, c0, e⟩ := h.at ok hs
    refine ⟨2 * c + 1, by omega, ?_⟩
    rw [if_pos rfl, e, show 16 * u + s - 16 * u = s by omega, Int.mul_add]
    simp only [p2]
    rw [Int.mul_comm 2, Int.mul_assoc]; omega
theorem set_bound {qs : List Int} (ok : DsOk qs) {t s : Nat} (hs : s < 16) (h : Lowz qs (16 * t + s + 1)) : 0 ≤ qs.getD t 0 + p2 s ∧ qs.getD t 0 + p2 s < 65536 := by
  obtain ⟨c, c0, e⟩ := h.at ok hs
  have b := ok.getD t
  unfold K16 at b
  have p := p2_pos s
  refine ⟨by omega, ?_⟩
  have f : (65536 : Int) = p2 (s + 1) * p2 (15 - s) := by
    have : p2 (s + 1 + (15 - s)) = p2 (s + 1) * p2 (15 - s) := p2_add _ _
    rw [show s + 1 + (15 - s) = 16 by omega] at this
    have g : p2 16 = 65536 := by decide
    rw [g] at this
    exact this
  have c1 : c < p2 (15 - s) := by
    have : p2 (s + 1) * c < p2 (s + 1) * p2 (15 - s) := by omega
    exact Int.lt_of_mul_lt_mul_left this (by have := p2_pos (s + 1); omega)
  have t2 := Int.mul_le_mul_of_nonneg_left (show c + 1 ≤ p2 (15 - s) by omega) (show 0 ≤ p2 (s + 1) by have := p2_pos (s + 1); omega)
  rw [Int.mul_add, ← f] at t2
  simp only [p2] at t2 e
  omega
/-- The bit is set. -/
theorem or_bit {q : Int} {s : Nat} (hs : s < 16) (h : ∃ c, 0 ≤ c ∧ q = p2 (s + 1) * c) (h1 : q < 65536) : bits .or .u64 q (p2 s) = q + p2 s := by
  obtain ⟨c, c0, e⟩ := h
  obtain ⟨C, rfl⟩ := Int.eq_ofNat_of_zero_le c0
  have e2 : p2 (s + 1) * (C : Int) = ((2 ^ (s + 1) * C : Nat) : Int) := by rw [p2_pow]; simp
  have e3 : p2 s = ((2 ^ s : Nat) : Int) := by rw [p2_pow]; simp
  rw [e2] at e
  have l : 2 ^ s < 2 ^ (s + 1) := Nat.pow_lt_pow_right (by omega) (by omega)
  have l2 : 2 ^ s ≤ 2 ^ 16 := Nat.pow_le_pow_right (by omega) (by omega)
  rw [e, e3, bits_or_u64_nat _ _ (by omega) (by omega), ← Nat.two_pow_add_eq_or_of_lt l]
  omega
theorem dval_bit {qs : List Int} {t s : Nat} {Q : Int} (ht : t < qs.length) (h : dval qs = Q * p2 (16 * t + s + 1)) : dval (qs.set t (qs.getD t 0 + p2 s)) = (2 * Q + 1) * p2 (16 * t + s) := by
  rw [dval_set _ _ _ ht, h]
  have e : p2 (16 * t + s + 1) = 2 * p2 (16 * t + s) := rfl
  have f : p2 (16 * t + s) = pw t * p2 s := by rw [p2_add, p2_16]
  rw [e, show qs.getD t 0 + p2 s - qs.getD t 0 = p2 s by omega, Int.add_mul, Int.mul_comm 2 Q, Int.mul_assoc, Int.mul_comm (p2 s), ← f]
  omega

/-- The row of the quotient's digits. -/
structure QR (wr : World) (g n cap : Nat) (qs : List Int) : Prop where
  len : qs.length = n
  fits : n ≤ cap
  max : cap ≤ maxLen
  cell : ∀ i, i < n → wr.cell? ⟨g, i, none⟩ = some (.int .u64 (qs.getD i 0))
  fz : ∀ o, wr.frozen? ⟨g, o, none⟩ = false
  ok : DsOk qs
  lt : g < wr.heap.size
theorem QR.below {w w' : World} {g n cap : Nat} {qs : List Int} (h : QR w g n cap qs) (hb : Below w.heap.size w w') : QR w' g n cap qs :=
  ⟨h.len, h.fits, h.max, fun i hi => by rw [hb.cell (p := ⟨g, i, none⟩) h.lt]; exact h.cell i hi, fun o => by rw [hb.frozen (p := ⟨g, o, none⟩) h.lt]; exact h.fz o, h.ok, Nat.lt_of_lt_of_le h.lt hb.size⟩
theorem QR.set {w : World} {g n cap : Nat} {qs : List Int} (h : QR w g n cap qs) {t : Nat} (ht : t < n) {y : Int} (h0 : 0 ≤ y) (h1 : y < K16) : QR (w.setCell ⟨g, t, none⟩ (.int .u64 y)) g n cap (qs.set t y) := by
  refine ⟨by rw [List.length_set]; exact h.len, h.fits, h.max, fun i hi => ?_, fun o => by simpa using h.fz o, h.ok.set t h0 h1, by simpa using h.lt⟩
  rw [getD_set _ _ _ _ (by rw [h.len]; exact ht)]
  by_cases e : i = t
  · subst e; rw [if_pos rfl]; exact World.cell?_setCell_same _ _ _ (h.cell i hi)
  · rw [if_neg e]; exact (World.cell?_setCell_other _ _ _ _ (fun q => e (by have := congrArg Addr.off q; exact this.symm))).trans (h.cell i hi)
theorem QR.set2 {w : World} {g n cap c : Nat} {qs : List Int} (h : QR w g n cap qs) (ne : g ≠ c) (u v : Value) : QR ((w.setCell ⟨c, 0, none⟩ u).setCell ⟨c, 1, none⟩ v) g n cap qs :=
  ⟨h.len, h.fits, h.max, fun i hi => by rw [set2_other (by simpa using ne)]; exact h.cell i hi, fun o => by simpa using h.fz o, h.ok, by simpa using h.lt⟩
theorem QR.dg {w : World} {g n cap : Nat} {qs : List Int} (h : QR w g n cap qs) : Dg w (some ⟨g, 0, none⟩) n cap qs :=
  ⟨h.len, h.fits, h.max, ⟨g, 0, fun _ => rfl, fun i hi => by rw [Nat.zero_add]; exact h.cell i hi⟩, h.ok⟩
theorem QR.of_owns {w : World} {base : Nat} {v : Value} {qs : List Int} (h : w.ownsRow base 26 1 v qs.length (qs.map (Value.int .u64))) (ok : DsOk qs) (p : 0 < qs.length) : ∃ g cap, v = .slice (some ⟨g, 0, none⟩) qs.length cap ∧ QR w g qs.length cap qs ∧ base ≤ g := by
  have hh := h
  obtain ⟨h1, h2⟩ := h
  rcases h2 with ⟨rfl, h3⟩ | ⟨g, cap, cur, rfl, hb, hg, hn, hm, hs, ht⟩
  · omega
  · refine ⟨g, cap, rfl, ⟨rfl, hn, hm, fun i hi => ?_, fun o => hh.frozenAt o, ok, (Array.getElem?_eq_some_iff.1 hg).1⟩, hb⟩
    rw [hh.cellAt i (by omega)]
    simp [List.getD, hi]

end Go.Proofs.Ytlgdolchnlagcaa
