/- Plain mathematics: the sum of bytes by the polynomial, by bits and by half bytes. No program in it. -/
import Derived.Test.YtcmifdnndckpcaaDoorMath
namespace Go.Proofs.YtcmifdnndckpcaaDoor
set_option linter.unusedVariables false
set_option linter.unusedSimpArgs false

/-- One bit. -/
def b1 (c : Nat) : Nat := c / 2 ^^^ (if c % 2 = 1 then 3988292384 else 0)
/-- The table of half bytes. -/
def tabL : List Int := [0, 498536548, 997073096, 651767980, 1994146192, 1802195444, 1303535960, 1342533948, 3988292384, 4027552580, 3604390888, 3412177804, 2607071920, 2262029012, 2685067896, 3183342108]
def tab (i : Nat) : Nat := (tabL.getD i 0).toNat
/-- Half a byte. -/
def nib (c : Nat) : Nat := c / 16 ^^^ tab (c % 16)
/-- A byte. -/
def crc1 (c b : Nat) : Nat := nib (nib (c ^^^ b))
def crcL (c : Nat) : List Int → Nat
  | [] => c
  | x :: r => crcL (crc1 c x.toNat) r

theorem xor_div (a b : Nat) : (a ^^^ b) / 2 = a / 2 ^^^ b / 2 := by
  have := Nat.xor_div_two_pow (a := a) (b := b) (n := 1)
  simpa using this
theorem xor_div16 (a b : Nat) : (a ^^^ b) / 16 = a / 16 ^^^ b / 16 := by
  have := Nat.xor_div_two_pow (a := a) (b := b) (n := 4)
  simpa using this
theorem xor_mod2 (a b : Nat) : (a ^^^ b) % 2 = a % 2 ^^^ b % 2 := by
  have := Nat.xor_mod_two_pow (a := a) (b := b) (n := 1)
  simpa using this
theorem xor_mod16 (a b : Nat) : (a ^^^ b) % 16 = a % 16 ^^^ b % 16 := by
  have := Nat.xor_mod_two_pow (a := a) (b := b) (n := 4)
  simpa using this
theorem xor_swap (a b c d : Nat) : (a ^^^ b) ^^^ (c ^^^ d) = (a ^^^ c) ^^^ (b ^^^ d) := by
  rw [Nat.xor_assoc, Nat.xor_assoc, ← Nat.xor_assoc b c d, Nat.xor_comm b c, Nat.xor_assoc c b d]
theorem xor_cancel_left {a b c : Nat} (h : a ^^^ b = a ^^^ c) : b = c := by
  have := congrArg (fun x => a ^^^ x) h
  simpa [← Nat.xor_assoc] using this
theorem xor_cancel_right {a b c : Nat} (h : b ^^^ a = c ^^^ a) : b = c := by
  rw [Nat.xor_comm b a, Nat.xor_comm c a] at h
  exact xor_cancel_left h

theorem b1_xor (a b : Nat) : b1 (a ^^^ b) = b1 a ^^^ b1 b := by
  unfold b1
  rw [xor_div, xor_mod2, xor_swap]
  congr 1
  rcases Nat.mod_two_eq_zero_or_one a with h | h <;> rcases Nat.mod_two_eq_zero_or_one b with k | k <;> rw [h, k] <;> simp
def b4 (c : Nat) : Nat := b1 (b1 (b1 (b1 c)))
theorem b4_xor (a b : Nat) : b4 (a ^^^ b) = b4 a ^^^ b4 b := by unfold b4; rw [b1_xor, b1_xor, b1_xor, b1_xor]
theorem b1_even {c : Nat} (h : c % 2 = 0) : b1 c = c / 2 := by unfold b1; rw [if_neg (by omega)]; simp
theorem b4_high (h : Nat) : b4 (16 * h) = h := by
  unfold b4
  rw [b1_even (c := 16 * h) (by omega), b1_even (c := 16 * h / 2) (by omega), b1_even (c := 16 * h / 2 / 2) (by omega), b1_even (c := 16 * h / 2 / 2 / 2) (by omega)]
  omega
theorem b4_low : ∀ l : Fin 16, b4 l.val = tab l.val := by decide
theorem split16 (c : Nat) : c = (16 * (c / 16)) ^^^ (c % 16) := by
  have h : 16 * (c / 16) + c % 16 = 16 * (c / 16) ||| c % 16 := by
    have := Nat.two_pow_add_eq_or_of_lt (i := 4) (b := c % 16) (by omega) (c / 16)
    simpa using this
  apply Nat.eq_of_testBit_eq
  intro i
  have e : c.testBit i = (16 * (c / 16) ||| c % 16).testBit i := by rw [← h]; congr 1; omega
  rw [e, Nat.testBit_or, Nat.testBit_xor]
  by_cases q : i < 4
  · have : (16 * (c / 16)).testBit i = false := by
      have := Nat.testBit_two_pow_mul (i := 4) (a := c / 16) (j := i)
      rw [show (2 : Nat) ^ 4 = 16 by decide] at this
      rw [this]
      simp; omega
    rw [this]; simp
  · have : (c % 16).testBit i = false := Nat.testBit_lt_two_pow (Nat.lt_of_lt_of_le (show c % 16 < 2 ^ 4 by omega) (Nat.pow_le_pow_right (by decide) (by omega)))
    rw [this]; simp
theorem nib_b4 (c : Nat) : nib c = b4 c := by
  conv => rhs; rw [split16 c]
  rw [b4_xor, b4_high]
  have := b4_low ⟨c % 16, by omega⟩
  unfold nib
  rw [← this]

/-- The reference's step: one bit of the byte b. -/
def r1 (c x : Nat) : Nat := c / 2 ^^^ (if (c % 2 ^^^ x) = 1 then 3988292384 else 0)
theorem r1_b1 (c b : Nat) : b1 (c ^^^ b) = r1 c (b % 2) ^^^ b / 2 := by
  unfold b1 r1
  rw [xor_div, xor_mod2]
  have e : c / 2 ^^^ b / 2 = b / 2 ^^^ c / 2 := Nat.xor_comm _ _
  rw [e, Nat.xor_assoc, Nat.xor_comm]
/-- The first k bits of the byte. -/
def rK (b : Nat) : Nat → Nat → Nat
  | 0, c => c
  | k + 1, c => r1 (rK b k c) (b / 2 ^ k % 2)
theorem rK_b1 (b c : Nat) : ∀ k, Nat.repeat b1 k (c ^^^ b) = rK b k c ^^^ b / 2 ^ k := by
  intro k
  induction k with
  | zero => simp [Nat.repeat, rK]
  | succ k ih =>
    show b1 (Nat.repeat b1 k (c ^^^ b)) = _
    rw [ih, r1_b1]
    show _ = rK b (k + 1) c ^^^ b / 2 ^ (k + 1)
    rw [Nat.div_div_eq_div_mul, ← Nat.pow_succ]
    rfl
theorem rK_crc {b : Nat} (h : b < 256) (c : Nat) : rK b 8 c = crc1 c b := by
  have := rK_b1 b c 8
  rw [show b / 2 ^ 8 = 0 by omega] at this
  rw [Nat.xor_zero] at this
  rw [← this]
  unfold crc1
  rw [nib_b4, nib_b4]
  rfl

theorem tab_lt : ∀ l : Fin 16, tab l.val < 4294967296 := by decide
theorem xor_lt32 {a b : Nat} (h : a < 4294967296) (k : b < 4294967296) : a ^^^ b < 4294967296 := by
  have := Nat.xor_lt_two_pow (n := 32) (x := a) (y := b) h k
  simpa using this
theorem nib_lt {c : Nat} (h : c < 4294967296) : nib c < 4294967296 := xor_lt32 (by omega) (tab_lt ⟨c % 16, by omega⟩)
theorem crc1_lt {c b : Nat} (h : c < 4294967296) (k : b < 4294967296) : crc1 c b < 4294967296 := nib_lt (nib_lt (xor_lt32 h k))
theorem r1_lt {c x : Nat} (h : c < 4294967296) : r1 c x < 4294967296 := by
  unfold r1
  exact xor_lt32 (by omega) (by split <;> decide)
theorem rK_lt (b : Nat) {c : Nat} (h : c < 4294967296) : ∀ k, rK b k c < 4294967296 := by
  intro k
  induction k with
  | zero => exact h
  | succ k ih => exact r1_lt ih
theorem crcL_lt {l : List Int} : ∀ {c : Nat}, c < 4294967296 → Bys l → crcL c l < 4294967296 := by
  induction l with
  | nil => intro c h _; exact h
  | cons x r ih => intro c h hb; exact ih (crc1_lt h (by have := hb.cons.1; omega)) hb.cons.2
theorem crcL_snoc (x : Int) : ∀ (l : List Int) (c : Nat), crcL c (l ++ [x]) = crc1 (crcL c l) x.toNat := by
  intro l
  induction l with
  | nil => intro c; rfl
  | cons y r ih => intro c; exact ih _
theorem crcL_app (m : List Int) : ∀ (l : List Int) (c : Nat), crcL c (l ++ m) = crcL (crcL c l) m := by
  intro l
  induction l with
  | nil => intro c; rfl
  | cons y r ih => intro c; exact ih _
/-- The sum. -/
def sum (l : List Int) : Nat := 4294967295 - crcL 4294967295 l

/-- Half a byte's step keeps apart what is apart. -/
theorem top_inj : ∀ a b : Fin 16, tab a.val / 268435456 = tab b.val / 268435456 → a = b := by decide
theorem xor_div28 (a b : Nat) : (a ^^^ b) / 268435456 = a / 268435456 ^^^ b / 268435456 := by
  have := Nat.xor_div_two_pow (a := a) (b := b) (n := 28)
  simpa using this
theorem nib_inj {c d : Nat} (hc : c < 4294967296) (hd : d < 4294967296) (h : nib c = nib d) : c = d := by
  unfold nib at h
  have t := congrArg (fun x => x / 268435456) h
  simp only [xor_div28] at t
  rw [show c / 16 / 268435456 = 0 by omega, show d / 16 / 268435456 = 0 by omega, Nat.zero_xor, Nat.zero_xor] at t
  have e := top_inj ⟨c % 16, by omega⟩ ⟨d % 16, by omega⟩ t
  have e' : c % 16 = d % 16 := congrArg Fin.val e
  rw [e'] at h
  have := xor_cancel_right h
  omega
theorem crc1_inj {c d b : Nat} (hc : c < 4294967296) (hd : d < 4294967296) (hb : b < 4294967296) (h : crc1 c b = crc1 d b) : c = d := by
  unfold crc1 at h
  have a1 := xor_lt32 hc hb
  have a2 := xor_lt32 hd hb
  exact xor_cancel_right (nib_inj a1 a2 (nib_inj (nib_lt a1) (nib_lt a2) h))
theorem crcL_inj {l : List Int} : ∀ {c d : Nat}, c < 4294967296 → d < 4294967296 → Bys l → crcL c l = crcL d l → c = d := by
  induction l with
  | nil => intro c d _ _ _ h; exact h
  | cons x r ih =>
    intro c d hc hd hb h
    have bx : x.toNat < 4294967296 := by have := hb.cons.1; omega
    exact crc1_inj hc hd bx (ih (crc1_lt hc bx) (crc1_lt hd bx) hb.cons.2 h)
theorem crc1_apart {c a b : Nat} (hc : c < 4294967296) (ha : a < 256) (hb : b < 256) (h : crc1 c a = crc1 c b) : a = b := by
  unfold crc1 at h
  have a1 := xor_lt32 hc (show a < 4294967296 by omega)
  have a2 := xor_lt32 hc (show b < 4294967296 by omega)
  exact xor_cancel_left (nib_inj a1 a2 (nib_inj (nib_lt a1) (nib_lt a2) h))
/-- One byte that is changed changes the sum. -/
theorem sum_set {l : List Int} (hb : Bys l) {i : Nat} (hi : i < l.length) {y : Int} (h0 : 0 ≤ y) (h1 : y < 256) (hne : y ≠ l.getD i 0) : sum (l.set i y) ≠ sum l := by
  have e : l.getD i 0 = l[i] := by simp [List.getD, hi]
  have s1 : l = l.take i ++ (l[i] :: l.drop (i + 1)) := by rw [List.getElem_cons_drop]; simp
  have s2 : l.set i y = l.take i ++ (y :: l.drop (i + 1)) := List.set_eq_take_append_cons_drop .. |>.trans (by rw [if_pos hi])
  intro h
  have bt : Bys (l.take i) := hb.take i
  have bd : Bys (l.drop (i + 1)) := hb.drop _
  have by0 := hb (l[i]) (List.getElem_mem hi)
  have k0 := crcL_lt (c := 4294967295) (by decide) bt
  have f1 : crcL 4294967295 l = crcL (crc1 (crcL 4294967295 (l.take i)) (l[i]).toNat) (l.drop (i + 1)) := by
    conv => lhs; rw [s1]
    rw [crcL_app]; rfl
  have f2 : crcL 4294967295 (l.set i y) = crcL (crc1 (crcL 4294967295 (l.take i)) y.toNat) (l.drop (i + 1)) := by
    rw [s2, crcL_app]; rfl
  have g1 := crc1_lt k0 (show (l[i]).toNat < 4294967296 by omega)
  have g2 := crc1_lt k0 (show y.toNat < 4294967296 by omega)
  have l1 := crcL_lt g1 bd
  have l2 := crcL_lt g2 bd
  unfold sum at h
  rw [f1, f2] at h
  have q : crcL (crc1 (crcL 4294967295 (l.take i)) y.toNat) (l.drop (i + 1)) = crcL (crc1 (crcL 4294967295 (l.take i)) (l[i]).toNat) (l.drop (i + 1)) := by omega
  have q2 := crc1_apart k0 (by omega) (by omega) (crcL_inj g2 g1 bd q)
  rw [e] at hne
  omega

end Go.Proofs.YtcmifdnndckpcaaDoor
