/- Plain mathematics of frames: whole or not at all. No program in it. -/
import Derived.Test.YtblmfkdcahhhbaaDoorJ4
namespace Go.Proofs.YtblmfkdcahhhbaaDoor
open Go.RowKit
set_option linter.unusedVariables false
set_option linter.unusedSimpArgs false

/-- Frames of one life lie there, and behind them none begins. -/
structure Wh (s : St) (life lv : Nat) (fs : List Fa) : Prop where
  laid : Laid s.sec 0 life fs
  quiet : ∀ j, used fs ≤ j → (s.sec j).getD 0 0 ≠ 72
  lv : s.lives = lv
theorem fsec_next (kd : Int) (life num : Nat) (b : List Int) (k : Nat) (h : 1 ≤ k) : (pad (fsec kd life num b k)).getD 0 0 = 67 := by
  obtain ⟨j, rfl⟩ : ∃ j, k = j + 1 := ⟨k - 1, by omega⟩
  rfl
theorem Wh.add {s : St} {life lv : Nat} {fs : List Fa} (h : Wh s life lv fs) (kd : Int) (b : List Int) (hb : b.length ≤ 1000) {s' : St} (he : s'.sec = over s.sec (0 + used fs) 0 (fsize b.length) (fsec kd life fs.length b)) (hv : s'.lives = s.lives) : Wh s' life lv (fs ++ [⟨used fs, kd, b⟩]) := by
  refine ⟨by rw [he]; exact h.laid.add kd b hb, fun j hj => ?_, hv.trans h.lv⟩
  rw [used_snoc] at hj
  rw [he, over_off (by right; show 0 + used fs + fsize b.length ≤ j; have : used fs + fsize b.length ≤ j := hj; omega)]
  exact h.quiet j (by omega)
theorem Wh.part {s : St} {life lv : Nat} {fs : List Fa} (h : Wh s life lv fs) (kd : Int) (b : List Int) (lo : Nat) (hl : 1 ≤ lo) {s' : St} (he : s'.sec = over s.sec (0 + used fs) lo (fsize b.length) (fsec kd life fs.length b)) (hv : s'.lives = s.lives) : Wh s' life lv fs := by
  refine ⟨by rw [he]; exact h.laid.congr (fun j hj => over_off (by omega)), fun j hj => ?_, hv.trans h.lv⟩
  rw [he]
  unfold over
  split
  · rw [fsec_next _ _ _ _ _ (by omega)]; decide
  · exact h.quiet j hj
theorem Wh.well {s : St} {life lv : Nat} {fs : List Fa} (h : Wh s life lv fs) (kd : Int) (b : List Int) (hb : b.length ≤ 1000) (on : s.on = true) (lf : s.left = 0) (hl : life < 18446744073709551616) (hv : lv ≤ 1000000) (hr : used fs + fsize b.length ≤ 40) :
    ∃ s', addG 40 s ⟨0, 40, life, fs, lv⟩ kd b = ⟨(used fs : Nat), 0, s', ⟨0, 40, life, fs ++ [⟨used fs, kd, b⟩], lv⟩⟩ ∧ Wh s' life lv (fs ++ [⟨used fs, kd, b⟩]) ∧ s'.on = true ∧ s'.left = 0 ∧ s'.writes = s.writes + fsize b.length := by
  have ok : ArOk 40 ⟨0, 40, life, fs, lv⟩ := ⟨by show used fs ≤ 40; omega, by show 0 + 40 ≤ 40; decide, by decide, hl, hv⟩
  refine ⟨_, addG_well ok hb h.lv on (by show _ ≤ 40 - used fs; omega) (Or.inl lf), h.add kd b hb rfl rfl, on, by show s.left - _ = 0; omega, rfl⟩
/-- A cut at any write: the frame is there whole, or it is not there. -/
theorem Wh.cut {s : St} {life lv : Nat} {fs : List Fa} (h : Wh s life lv fs) (kd : Int) (b : List Int) (hb : b.length ≤ 1000) (on : s.on = true) (lf : 1 ≤ s.left) (hl : life < 18446744073709551616) (hv : lv ≤ 1000000) (hr : used fs + fsize b.length ≤ 40) :
    ∃ x e s' fs' ar', addG 40 s ⟨0, 40, life, fs, lv⟩ kd b = ⟨x, e, s', ar'⟩ ∧ Wh s' life lv fs' ∧ s'.writes ≤ s.writes + fsize b.length ∧ (e = 0 ∧ fs' = fs ++ [⟨used fs, kd, b⟩] ∨ e = 4 ∧ (fs' = fs ∨ fs' = fs ++ [⟨used fs, kd, b⟩])) := by
  have ok : ArOk 40 ⟨0, 40, life, fs, lv⟩ := ⟨by show used fs ≤ 40; omega, by show 0 + 40 ≤ 40; decide, by decide, hl, hv⟩
  have hp := fsize_pos b.length
  rcases Nat.lt_or_ge (fsize b.length) s.left with q | q
  · exact ⟨_, _, _, _, _, addG_well ok hb h.lv on (by show _ ≤ 40 - used fs; omega) (Or.inr q), h.add kd b hb rfl rfl, Nat.le_refl _, .inl ⟨rfl, rfl⟩⟩
  · have e := addG_stop (kd := kd) ok hb h.lv on (by show _ ≤ 40 - used fs; omega) lf q
    by_cases c : s.late = true ∧ s.left = fsize b.length
    · rw [if_pos c.1, c.2, Nat.sub_self] at e
      refine ⟨_, _, _, _, _, e, h.add kd b hb rfl rfl, ?_, .inr ⟨rfl, .inr rfl⟩⟩
      show s.writes + (fsize b.length - 1) ≤ _
      omega
    · refine ⟨_, _, _, _, _, e, h.part kd b _ ?_ rfl rfl, ?_, .inr ⟨rfl, .inl rfl⟩⟩
      · split
        · rename_i l
          have : s.left ≠ fsize b.length := fun x => c ⟨l, x⟩
          omega
        · omega
      · show s.writes + (s.left - 1) ≤ _
        omega
theorem Wh.onAgain {s : St} {life lv : Nat} {fs : List Fa} (h : Wh s life lv fs) : Wh s.onAgain life (lv + 1) fs := ⟨h.laid, h.quiet, by show s.lives + 1 = _; rw [h.lv]⟩
theorem Wh.opn {s : St} {life lv : Nat} {fs : List Fa} (h : Wh s life lv fs) (hl : life < 18446744073709551616) (hr : used fs ≤ 40) : opn s 0 40 = ⟨0, 40, if fs.length = 0 then 0 else life, fs, lv⟩ := by
  rcases Nat.eq_zero_or_pos fs.length with q | q
  · rw [if_pos q]
    obtain rfl := List.length_eq_zero_iff.1 q
    rw [opn_none (h.quiet 0 (Nat.le_refl _)), h.lv]
  · rw [if_neg (by omega), h.laid.opn hl hr (by decide) (Stop.quiet (h.quiet _ (by omega))) q, h.lv]
theorem Wh.got {s : St} {life lv : Nat} {fs : List Fa} (h : Wh s life lv fs) (on : s.on = true) (hl : life < 18446744073709551616) (hr : used fs ≤ 40) {i : Nat} (hi : i < fs.length) {lf : Nat} (hlf : lf = life) : gotG s ⟨0, 40, lf, fs, lv⟩ i (fs[i]).pos = ⟨(fs[i]).kind, (fs[i]).pay, 0⟩ := by
  subst hlf
  have r := h.laid.rd (count := 40) hl hr (by have := len_used fs; omega) hi
  rw [gotG_some h.lv on r]
  simp

/-- The first k rows' frames. -/
def fsK (L : List (List Int)) : Nat → List Fa
  | 0 => []
  | k + 1 => fsK L k ++ [⟨used (fsK L k), 1, L.getD k []⟩]
theorem fsK_len (L : List (List Int)) : ∀ k, (fsK L k).length = k
  | 0 => rfl
  | k + 1 => by rw [fsK, List.length_append, fsK_len L k]; rfl
theorem fsK_used {L : List (List Int)} : ∀ k, (∀ j, j < k → (L.getD j []).length ≤ 200) → used (fsK L k) ≤ 4 * k
  | 0, _ => Nat.le_refl _
  | k + 1, h => by
    have h1 := fsK_used k (fun j hj => h j (by omega))
    have h2 : (L.getD k []).length ≤ 200 := h k (by omega)
    rw [fsK, used_snoc]
    show used (fsK L k) + fsize (L.getD k []).length ≤ _
    have : fsize (L.getD k []).length ≤ 4 := by unfold fsize; omega
    omega
theorem fsK_at {L : List (List Int)} : ∀ {k i : Nat} (h : i < (fsK L k).length), ((fsK L k)[i]).kind = 1 ∧ ((fsK L k)[i]).pay = L.getD i []
  | 0, i, h => by simp [fsK] at h
  | k + 1, i, h => by
    rcases Nat.lt_or_ge i (fsK L k).length with q | q
    · have := fsK_at (L := L) (k := k) q
      simp only [fsK]
      rw [List.getElem_append_left q]; exact this
    · have hl := fsK_len L k
      have h2 := fsK_len L (k + 1)
      obtain rfl : i = k := by omega
      simp only [fsK]
      rw [List.getElem_append_right q]
      simp [hl]

end Go.Proofs.YtblmfkdcahhhbaaDoor
