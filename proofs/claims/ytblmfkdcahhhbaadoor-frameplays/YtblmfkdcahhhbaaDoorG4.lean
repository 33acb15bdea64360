/- The walks over package frame's payloadBytes and told. -/
import Derived.Test.YtblmfkdcahhhbaaDoorG3
namespace Go.Proofs.YtblmfkdcahhhbaaDoor
open Go.RowKit
set_option linter.unusedVariables false
set_option linter.unusedSimpArgs false

theorem seg_get {l : List Int} {i m j : Nat} (h : i + m ≤ l.length) (hj : j < m) : (seg l i m).getD j 0 = l.getD (i + j) 0 := by
  unfold seg
  have e : j < ((l.drop i).take m).length := by simp; omega
  simp [List.getD, List.getElem?_take, hj]
/-- A piece of bytes in memory. -/
theorem By.seg {w : World} {g o n cap : Nat} {l : List Int} (h : By w (some ⟨g, o, none⟩) n cap l) (i m : Nat) (him : i + m ≤ n) : By w (some ⟨g, o + i, none⟩) m (cap - i) (seg l i m) := by
  obtain ⟨b, o', h1, h2⟩ := h.cell
  have hf := h.fits
  have hm := h.max
  refine ⟨seg_len (by rw [h.len]; exact him), by omega, by omega, fun e => by simp at e, ⟨g, o + i, fun _ => rfl, fun j hj => ?_⟩, seg_ok h.ok i m⟩
  have e := h1 (by omega)
  simp at e
  obtain ⟨rfl, rfl⟩ := e
  rw [seg_get (by rw [h.len]; exact him) hj, Nat.add_assoc, h2 (i + j) (by omega)]

theorem upB2_lt {l : List Int} (h : Bys l) (hl : l.length = 2) : upB l < 65536 := by
  have := upB_lt l h; rw [hl] at this; exact this
set_option maxHeartbeats 1000000 in
theorem payloadBytes_any (g : Nat) (h : List Int) (w : World) (y : By w (some ⟨g, 0, none⟩) 64 64 h) :
    Calls Tryd.prog 65 #[.slice (some ⟨g, 0, none⟩) 64 64] w fun e w' => e = .returned (.int .i64 (hN h : Nat)) ∧ Below w.heap.size w w' := by
  have L : Hid _ := low_any (some ⟨g, 14, none⟩) 2 50 (seg h 14 2) w (by have := y.seg 14 2 (by decide); simpa using this) (by decide) (by decide)
  have lt : hN h < 65536 := upB2_lt (seg_ok y.ok 14 2) (seg_len (by rw [y.len]; decide))
  have L' : Hid (Calls Tryd.prog 67 #[.slice (some ⟨g, 14, none⟩) 2 50] w fun e w' => e = .returned (.int .u64 (hN h : Nat)) ∧ Below w.heap.size w w') := L.out
  clear L y
  have lt' : (hN h : Int) < 65536 := by omega
  generalize hN h = m at *
  go_enter Tryd.func65, Tryd.ntmps65
  go_wp2_with (go_at_call 67; refine Calls.mono L'.out ?_; rintro e w1 ⟨rfl, b1⟩)
  go_ret
  exact ⟨rfl, b1⟩
def toldOf (h : List Int) : Nat := if h.getD 0 0 = 72 ∧ hN h ≤ 1000 then fsize (hN h) else 0
set_option maxHeartbeats 1000000 in
theorem told_any (g : Nat) (h : List Int) (w : World) (y : By w (some ⟨g, 0, none⟩) 64 64 h) :
    Calls Tryd.prog 58 #[.slice (some ⟨g, 0, none⟩) 64 64] w fun e w' => e = .returned (.int .i64 (toldOf h : Nat)) ∧ Below w.heap.size w w' := by
  have P : Hid _ := payloadBytes_any g h w y
  have c0 : w.cell? ⟨g, 0, none⟩ = some (.int .u8 (h.getD 0 0)) := by
    obtain ⟨b, o', h1, h2⟩ := y.cell
    have e := h1 (by decide)
    simp at e
    obtain ⟨rfl, rfl⟩ := e
    exact h2 0 (by decide)
  obtain ⟨x, hx⟩ : ∃ x, x = h.getD 0 0 := ⟨_, rfl⟩
  rw [← hx] at c0
  clear y
  by_cases c : x = 72
  · subst c
    by_cases d : hN h ≤ 1000
    · have T : Hid (toldOf h = fsize (hN h)) := if_pos ⟨hx.symm, d⟩
      have S : Hid _ := fun W => Size_any (hN h) W d
      rw [T.out]
      clear hx
      generalize hN h = m at *
      generalize fsize m = k at *
      go_enter Tryd.func58, Tryd.ntmps58
      go_wp2_with (first | (go_at_call 65; refine Calls.mono P.out ?_; rintro e w1 ⟨rfl, b1⟩) | (go_at_call 13; refine Calls.mono (S.out _) ?_; rintro e w2 ⟨rfl, rfl⟩))
      go_ret
      exact ⟨rfl, b1⟩
    · have T : Hid (toldOf h = 0) := if_neg (fun k => d k.2)
      have S : Hid _ := fun W => Size_no (hN h : Nat) W (by omega)
      rw [T.out]
      clear hx
      generalize hN h = m at *
      go_enter Tryd.func58, Tryd.ntmps58
      go_wp2_with (first | (go_at_call 65; refine Calls.mono P.out ?_; rintro e w1 ⟨rfl, b1⟩) | (go_at_call 13; refine Calls.mono (S.out _) ?_; rintro e w2 ⟨rfl, rfl⟩))
      go_ret
      exact ⟨rfl, b1⟩
  · have T : Hid (toldOf h = 0) := if_neg (fun k => c (hx.trans k.1))
    have c' : (x == 72) = false := beq_eq_false_iff_ne.2 c
    rw [T.out]
    clear hx P
    go_enter Tryd.func58, Tryd.ntmps58
    go_wp2
    go_ret
    exact ⟨rfl, Below.refl _ _⟩

end Go.Proofs.YtblmfkdcahhhbaaDoor
