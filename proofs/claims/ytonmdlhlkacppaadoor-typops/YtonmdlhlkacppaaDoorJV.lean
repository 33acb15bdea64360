/- TypOps in plain words: the texts of two names and an operator, by the kernel. -/
import Derived.Test.YtonmdlhlkacppaaDoorJR
import Derived.BigQuiet
import Derived.Deep.RegionHeld3
namespace Go.Proofs.YtonmdlhlkacppaaDoor
open Go.RowKit
set_option linter.unusedVariables false
set_option linter.unusedSimpArgs false

def opN (i : Nat) : ByteArray := match i with | 0 => ⟨#[43]⟩ | 1 => ⟨#[45]⟩ | 2 => ⟨#[42]⟩ | 3 => ⟨#[47]⟩ | 4 => ⟨#[60]⟩ | 5 => ⟨#[60, 61]⟩ | 6 => ⟨#[62]⟩ | 7 => ⟨#[62, 61]⟩ | 8 => ⟨#[61, 61]⟩ | 9 => ⟨#[33, 61]⟩ | 10 => ⟨#[97, 110, 100]⟩ | 11 => ⟨#[111, 114]⟩ | 12 => ⟨#[109, 105, 110]⟩ | 13 => ⟨#[109, 97, 120]⟩ | _ => ⟨#[]⟩
def kdN (i : Nat) : ByteArray := match i with | 0 => ⟨#[]⟩ | 1 => ⟨#[98, 111, 111, 108]⟩ | 2 => ⟨#[99, 111, 117, 110, 116]⟩ | 3 => ⟨#[109, 111, 110, 101, 121]⟩ | 4 => ⟨#[114, 97, 116, 101]⟩ | 5 => ⟨#[100, 97, 116, 101]⟩ | 6 => ⟨#[109, 111, 110, 101, 121, 115]⟩ | _ => ⟨#[]⟩
def tOx (s ka kb : ByteArray) : ByteArray := ⟨#[105, 110, 112, 117, 116, 32, 120, 32]⟩ ++ ka ++ ⟨#[59, 32, 105, 110, 112, 117, 116, 32, 121, 32]⟩ ++ kb ++ ⟨#[59, 32, 114, 117, 108, 101, 32, 114, 32, 98, 111, 111, 108, 32, 61, 32]⟩ ++ s ++ ⟨#[59]⟩
def sO (i : Nat) : ByteArray := if i < 12 then ⟨#[120, 32]⟩ ++ opN i ++ ⟨#[32, 121]⟩ else opN i ++ ⟨#[40, 120, 44, 32, 121, 41]⟩
def kid3 (ks : List Tr) : Option Tr := match ks with | [_, _, k] => (match eqB k.op ⟨#[114, 117, 108, 101]⟩, k.kids with | true, [e] => some e | _, _ => none) | _ => none
def ckO (i a b : Nat) : Bool := okX (tOx (sO i) (kdN a) (kdN b)) && (match kid3 (trX (tOx (sO i) (kdN a) (kdN b))).kids with | some e => (chk (trX (tOx (sO i) (kdN a) (kdN b))).kids [] [] e).1 == binK (opN i) a b | none => false) && decide ((tOx (sO i) (kdN a) (kdN b)).size ≤ 3000)
theorem ckO_0 : ∀ a b : Fin 6, ckO 0 (a.val + 1) (b.val + 1) = true := by decide +kernel
theorem ckO_1 : ∀ a b : Fin 6, ckO 1 (a.val + 1) (b.val + 1) = true := by decide +kernel
theorem ckO_2 : ∀ a b : Fin 6, ckO 2 (a.val + 1) (b.val + 1) = true := by decide +kernel
theorem ckO_3 : ∀ a b : Fin 6, ckO 3 (a.val + 1) (b.val + 1) = true := by decide +kernel
theorem ckO_4 : ∀ a b : Fin 6, ckO 4 (a.val + 1) (b.val + 1) = true := by decide +kernel
theorem ckO_5 : ∀ a b : Fin 6, ckO 5 (a.val + 1) (b.val + 1) = true := by decide +kernel
theorem ckO_6 : ∀ a b : Fin 6, ckO 6 (a.val + 1) (b.val + 1) = true := by decide +kernel
theorem ckO_7 : ∀ a b : Fin 6, ckO 7 (a.val + 1) (b.val + 1) = true := by decide +kernel
theorem ckO_8 : ∀ a b : Fin 6, ckO 8 (a.val + 1) (b.val + 1) = true := by decide +kernel
theorem ckO_9 : ∀ a b : Fin 6, ckO 9 (a.val + 1) (b.val + 1) = true := by decide +kernel
theorem ckO_10 : ∀ a b : Fin 6, ckO 10 (a.val + 1) (b.val + 1) = true := by decide +kernel
theorem ckO_11 : ∀ a b : Fin 6, ckO 11 (a.val + 1) (b.val + 1) = true := by decide +kernel
theorem ckO_12 : ∀ a b : Fin 6, ckO 12 (a.val + 1) (b.val + 1) = true := by decide +kernel
theorem ckO_13 : ∀ a b : Fin 6, ckO 13 (a.val + 1) (b.val + 1) = true := by decide +kernel
theorem ckO_all (i a b : Nat) (hi : i < 14) (ha : 1 ≤ a) (ha6 : a ≤ 6) (hb : 1 ≤ b) (hb6 : b ≤ 6) : ckO i a b = true := by
  have A : ∀ j, (∀ x y : Fin 6, ckO j (x.val + 1) (y.val + 1) = true) → ckO j a b = true := fun j h => by
    have := h ⟨a - 1, by omega⟩ ⟨b - 1, by omega⟩
    have ea : a - 1 + 1 = a := by omega
    have eb : b - 1 + 1 = b := by omega
    simp only [ea, eb] at this
    exact this
  match i, hi with
  | 0, _ => exact A 0 ckO_0
  | 1, _ => exact A 1 ckO_1
  | 2, _ => exact A 2 ckO_2
  | 3, _ => exact A 3 ckO_3
  | 4, _ => exact A 4 ckO_4
  | 5, _ => exact A 5 ckO_5
  | 6, _ => exact A 6 ckO_6
  | 7, _ => exact A 7 ckO_7
  | 8, _ => exact A 8 ckO_8
  | 9, _ => exact A 9 ckO_9
  | 10, _ => exact A 10 ckO_10
  | 11, _ => exact A 11 ckO_11
  | 12, _ => exact A 12 ckO_12
  | 13, _ => exact A 13 ckO_13
  | n + 14, h => omega
theorem kid3_is {ks : List Tr} {e : Tr} (h : kid3 ks = some e) : ∃ k0 k1 k2, ks = [k0, k1, k2] ∧ k2.kids = [e] ∧ eqB k2.op ⟨#[114, 117, 108, 101]⟩ = true := by
  match ks, h with
  | [], h => cases h
  | [a], h => cases h
  | [a, b], h => cases h
  | [a, b, c], h =>
    unfold kid3 at h
    simp only at h
    match hq : eqB c.op ⟨#[114, 117, 108, 101]⟩, hc : c.kids, h with
    | true, [], h => cases h
    | true, [x], h => injection h with h; exact ⟨a, b, c, rfl, by rw [hc, h], hq⟩
    | true, x :: y :: z, h => cases h
    | false, [], h => cases h
    | false, x :: z, h => cases h
  | a :: b :: c :: d :: f, h => cases h
theorem ckO_is {i a b : Nat} (h : ckO i a b = true) : okX (tOx (sO i) (kdN a) (kdN b)) = true ∧ (tOx (sO i) (kdN a) (kdN b)).size ≤ 3000 ∧ ∃ k0 k1 k2 e, (trX (tOx (sO i) (kdN a) (kdN b))).kids = [k0, k1, k2] ∧ k2.kids = [e] ∧ eqB k2.op ⟨#[114, 117, 108, 101]⟩ = true ∧ (chk (trX (tOx (sO i) (kdN a) (kdN b))).kids [] [] e).1 = binK (opN i) a b := by
  unfold ckO at h
  rw [Bool.and_eq_true, Bool.and_eq_true] at h
  obtain ⟨⟨h1, h2⟩, h3⟩ := h
  refine ⟨h1, of_decide_eq_true h3, ?_⟩
  cases hk : kid3 (trX (tOx (sO i) (kdN a) (kdN b))).kids with
  | none => rw [hk] at h2; cases h2
  | some e =>
    rw [hk] at h2
    obtain ⟨k0, k1, k2, e1, e2, e3⟩ := kid3_is hk
    exact ⟨k0, k1, k2, e, e1, e2, e3, by simpa using h2⟩
theorem opN_mem (i : Nat) (h : i < 14) : opN i ∈ ops14 := by
  match i, h with
  | 0, _ => simp [opN, ops14]
  | 1, _ => simp [opN, ops14]
  | 2, _ => simp [opN, ops14]
  | 3, _ => simp [opN, ops14]
  | 4, _ => simp [opN, ops14]
  | 5, _ => simp [opN, ops14]
  | 6, _ => simp [opN, ops14]
  | 7, _ => simp [opN, ops14]
  | 8, _ => simp [opN, ops14]
  | 9, _ => simp [opN, ops14]
  | 10, _ => simp [opN, ops14]
  | 11, _ => simp [opN, ops14]
  | 12, _ => simp [opN, ops14]
  | 13, _ => simp [opN, ops14]
  | n + 14, h => omega
theorem cell12 (w : World) (i : Nat) (h : i < 12) : (w.alloc (.cells #[.string ⟨#[43]⟩, .string ⟨#[45]⟩, .string ⟨#[42]⟩, .string ⟨#[47]⟩, .string ⟨#[60]⟩, .string ⟨#[60, 61]⟩, .string ⟨#[62]⟩, .string ⟨#[62, 61]⟩, .string ⟨#[61, 61]⟩, .string ⟨#[33, 61]⟩, .string ⟨#[97, 110, 100]⟩, .string ⟨#[111, 114]⟩] 9)).cell? ⟨w.heap.size, i, none⟩ = some (.string (opN i)) := by
  match i, h with
  | 0, _ => simp [opN]
  | 1, _ => simp [opN]
  | 2, _ => simp [opN]
  | 3, _ => simp [opN]
  | 4, _ => simp [opN]
  | 5, _ => simp [opN]
  | 6, _ => simp [opN]
  | 7, _ => simp [opN]
  | 8, _ => simp [opN]
  | 9, _ => simp [opN]
  | 10, _ => simp [opN]
  | 11, _ => simp [opN]
  | n + 12, h => omega
theorem cell2 (w : World) (j : Nat) (h : j < 2) : (w.alloc (.cells #[.string ⟨#[109, 105, 110]⟩, .string ⟨#[109, 97, 120]⟩] 9)).cell? ⟨w.heap.size, j, none⟩ = some (.string (opN (j + 12))) := by
  match j, h with
  | 0, _ => simp [opN]
  | 1, _ => simp [opN]
  | n + 2, h => omega
theorem cell7 (w : World) (i : Nat) (h : i < 7) : (w.alloc (.cells #[.string ⟨#[]⟩, .string ⟨#[98, 111, 111, 108]⟩, .string ⟨#[99, 111, 117, 110, 116]⟩, .string ⟨#[109, 111, 110, 101, 121]⟩, .string ⟨#[114, 97, 116, 101]⟩, .string ⟨#[100, 97, 116, 101]⟩, .string ⟨#[109, 111, 110, 101, 121, 115]⟩] 9)).cell? ⟨w.heap.size, i, none⟩ = some (.string (kdN i)) := by
  match i, h with
  | 0, _ => simp [kdN]
  | 1, _ => simp [kdN]
  | 2, _ => simp [kdN]
  | 3, _ => simp [kdN]
  | 4, _ => simp [kdN]
  | 5, _ => simp [kdN]
  | 6, _ => simp [kdN]
  | n + 7, h => omega
set_option maxRecDepth 100000 in
set_option maxHeartbeats 8000000 in
theorem kname_any (a : Nat) (h1 : 1 ≤ a) (h6 : a ≤ 6) (w : World) : Calls Tryd.prog 17 #[.int .i64 (a : Nat)] w fun e w' => e = .returned (.string (kdN a)) ∧ Below w.heap.size w w' := by
  have z1 : ¬ (a : Int) < 1 := by omega
  have z2 : ¬ (6 : Int) < (a : Int) := by omega
  have z3 : (a : Int) < 7 := by omega
  have c := cell7 w a (by omega)
  have B := hid (show Below w.heap.size w (w.alloc (.cells #[.string ⟨#[]⟩, .string ⟨#[98, 111, 111, 108]⟩, .string ⟨#[99, 111, 117, 110, 116]⟩, .string ⟨#[109, 111, 110, 101, 121]⟩, .string ⟨#[114, 97, 116, 101]⟩, .string ⟨#[100, 97, 116, 101]⟩, .string ⟨#[109, 111, 110, 101, 121, 115]⟩] 9)) from (Below.refl _ _).alloc (Nat.le_refl _) _)
  generalize kdN a = ka at *
  clear h1 h6
  go_enter Tryd.func17, Tryd.ntmps17
  go_wp2_with fail
  go_returns
  exact ⟨rfl, B.out⟩
end Go.Proofs.YtonmdlhlkacppaaDoor

