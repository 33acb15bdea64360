/- The table of signs, read. -/
import Derived.Test.YtobolipjgkabhaaDoorLc
namespace Go.Proofs.YtobolipjgkabhaaDoor
open Go.RowKit
set_option linter.unusedVariables false
set_option linter.unusedSimpArgs false

def tabA : Array Value := #[.string ⟨#[60, 61]⟩, .string ⟨#[62, 61]⟩, .string ⟨#[61, 61]⟩, .string ⟨#[33, 61]⟩, .string ⟨#[40]⟩, .string ⟨#[41]⟩, .string ⟨#[123]⟩, .string ⟨#[125]⟩, .string ⟨#[91]⟩, .string ⟨#[93]⟩, .string ⟨#[44]⟩, .string ⟨#[59]⟩, .string ⟨#[58]⟩, .string ⟨#[61]⟩, .string ⟨#[43]⟩, .string ⟨#[45]⟩, .string ⟨#[42]⟩, .string ⟨#[47]⟩, .string ⟨#[60]⟩, .string ⟨#[62]⟩]
theorem tab_at : ∀ i, i < 20 → tabA[i]? = some (.string (tx (sg i))) := by
  intro i hi
  match i, hi with
  | 0, _ => rfl
  | 1, _ => rfl
  | 2, _ => rfl
  | 3, _ => rfl
  | 4, _ => rfl
  | 5, _ => rfl
  | 6, _ => rfl
  | 7, _ => rfl
  | 8, _ => rfl
  | 9, _ => rfl
  | 10, _ => rfl
  | 11, _ => rfl
  | 12, _ => rfl
  | 13, _ => rfl
  | 14, _ => rfl
  | 15, _ => rfl
  | 16, _ => rfl
  | 17, _ => rfl
  | 18, _ => rfl
  | 19, _ => rfl
  | i + 20, hi => omega
theorem hp_at (s : ByteArray) (k j : Nat) (w : World) (hk : k ≤ s.size) (hs : s.size ≤ 8192) (hj : j < 20) : Calls Tryd.prog 16 #[.string (s.extract k s.size), .string (tx (sg j))] w fun e w' => e = .returned (.bool (hpB (tl s k) (sg j))) ∧ w = w' := by
  have h := hasPrefix_any (s.extract k s.size) (tx (sg j)) w (by rw [ByteArray.size_extract]; omega) (by
    have : ∀ i : Fin 20, (tx (sg i.val)).size < 9000000000000000000 := by decide
    exact this ⟨j, hj⟩)
  have e1 : (s.extract k s.size).data.toList = tl s k := by
    rw [ext_data]
    show (tl s k).take (s.size - k) = _
    rw [List.take_of_length_le (by rw [tl_len]; omega)]
  rw [e1] at h
  exact h
theorem idx_run (A : Array Value) (j : Nat) (t : ByteArray) (w : World) (hj : j < 20) (hA : A[j]? = some (.string t)) (hz : A.size = 20) : (Instr.index 48 (.agg A) (.int .i64 (j : Nat))).run Tryd.prog w = .ok (.string t) w := by
  have h1 : (j : Int) < 20 := by omega
  have h2 : (0 : Int) ≤ (j : Int) := by omega
  unfold Instr.index
  simp [go_sem, Tryd.underlying48, h1, h2]
  rw [if_pos hj, hA]
  rfl
theorem Tab.all {w : World} (h : Tab w) : w.cell? ⟨0, 0, none⟩ = some (.string ⟨#[60, 61]⟩) ∧ w.cell? ⟨0, 1, none⟩ = some (.string ⟨#[62, 61]⟩) ∧ w.cell? ⟨0, 2, none⟩ = some (.string ⟨#[61, 61]⟩) ∧ w.cell? ⟨0, 3, none⟩ = some (.string ⟨#[33, 61]⟩) ∧ w.cell? ⟨0, 4, none⟩ = some (.string ⟨#[40]⟩) ∧ w.cell? ⟨0, 5, none⟩ = some (.string ⟨#[41]⟩) ∧ w.cell? ⟨0, 6, none⟩ = some (.string ⟨#[123]⟩) ∧ w.cell? ⟨0, 7, none⟩ = some (.string ⟨#[125]⟩) ∧ w.cell? ⟨0, 8, none⟩ = some (.string ⟨#[91]⟩) ∧ w.cell? ⟨0, 9, none⟩ = some (.string ⟨#[93]⟩) ∧ w.cell? ⟨0, 10, none⟩ = some (.string ⟨#[44]⟩) ∧ w.cell? ⟨0, 11, none⟩ = some (.string ⟨#[59]⟩) ∧ w.cell? ⟨0, 12, none⟩ = some (.string ⟨#[58]⟩) ∧ w.cell? ⟨0, 13, none⟩ = some (.string ⟨#[61]⟩) ∧ w.cell? ⟨0, 14, none⟩ = some (.string ⟨#[43]⟩) ∧ w.cell? ⟨0, 15, none⟩ = some (.string ⟨#[45]⟩) ∧ w.cell? ⟨0, 16, none⟩ = some (.string ⟨#[42]⟩) ∧ w.cell? ⟨0, 17, none⟩ = some (.string ⟨#[47]⟩) ∧ w.cell? ⟨0, 18, none⟩ = some (.string ⟨#[60]⟩) ∧ w.cell? ⟨0, 19, none⟩ = some (.string ⟨#[62]⟩) :=
  ⟨h.2 0 (by decide), h.2 1 (by decide), h.2 2 (by decide), h.2 3 (by decide), h.2 4 (by decide), h.2 5 (by decide), h.2 6 (by decide), h.2 7 (by decide), h.2 8 (by decide), h.2 9 (by decide), h.2 10 (by decide), h.2 11 (by decide), h.2 12 (by decide), h.2 13 (by decide), h.2 14 (by decide), h.2 15 (by decide), h.2 16 (by decide), h.2 17 (by decide), h.2 18 (by decide), h.2 19 (by decide)⟩
theorem sgn_text {s : ByteArray} {k j : Nat} (hk : k ≤ s.size) (y : hpB (tl s k) (sg j) = true) : tx (sg j) = s.extract k (k + (sg j).length) := by
  rw [ext_is, show k + (sg j).length - k = (sg j).length by omega]
  have := beq_iff_eq.1 y
  rw [this]
theorem sg_len : ∀ j, j < 20 → (tx (sg j)).size = (sg j).length ∧ 1 ≤ (sg j).length ∧ (sg j).length ≤ 2 := by
  have : ∀ i : Fin 20, (tx (sg i.val)).size = (sg i.val).length ∧ 1 ≤ (sg i.val).length ∧ (sg i.val).length ≤ 2 := by decide
  exact fun j hj => this ⟨j, hj⟩
end Go.Proofs.YtobolipjgkabhaaDoor
