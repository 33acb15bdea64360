/- The walks over package cal, on: figures in a field, a day's text. -/
import Derived.Test.YtobolipjgkabhaaDoorW3
import Derived.Laws.BytesArg
import Derived.Lib.SlBytesConst
namespace Go.Proofs.YtobolipjgkabhaaDoor
open Go.RowKit
set_option linter.unusedVariables false
set_option linter.unusedSimpArgs false

def upd (f : Nat → Int) (j : Nat) (v : Int) : Nat → Int := fun i => if i = j then v else f i

/-- Ten bytes in memory. -/
structure R10 (w : World) (b : Nat) (f : Nat → Int) : Prop where
  c : ∀ i, i < 10 → w.cell? ⟨b, i, none⟩ = some (.int .u8 (f i))
  fz : ∀ o, o < 10 → w.frozen? ⟨b, o, none⟩ = false

theorem R10.set {w : World} {b : Nat} {f : Nat → Int} (h : R10 w b f) (j : Nat) (hj : j < 10) (v : Int) : R10 (w.setCell ⟨b, j, none⟩ (.int .u8 v)) b (upd f j v) := by
  refine ⟨fun i hi => ?_, fun o ho => by simpa using h.fz o ho⟩
  unfold upd
  by_cases e : i = j
  · subst e
    rw [if_pos rfl]
    exact World.cell?_setCell_same _ _ _ (h.c i hi)
  · have ne : (⟨b, i, none⟩ : Addr) ≠ ⟨b, j, none⟩ := fun k => e (by injection k)
    rw [if_neg e]
    first | exact (World.cell?_setCell_other _ _ _ _ ne).trans (h.c i hi) | exact (World.cell?_setCell_other _ _ _ _ ne.symm).trans (h.c i hi)

set_option maxHeartbeats 1000000 in
theorem fig_0 (b cap : Nat) (n : Int) (f : Nat → Int) (w : World) (h : R10 w b f) (hcap : 4 ≤ cap) (n0 : 0 ≤ n) (n1 : n ≤ 9999) :
    Calls Tryd.prog 53 #[.slice (some ⟨b, 0, none⟩) 4 cap, .int .i64 n] w fun e w' => e = .returned (.tuple #[]) ∧ R10 w' b (upd (upd (upd (upd f 3 (48 + n % 10)) 2 (48 + n / 10 % 10)) 1 (48 + n / 10 / 10 % 10)) 0 (48 + n / 10 / 10 / 10 % 10)) ∧ Below b w w' := by
  have h0 := h.set 3 (by omega) (48 + n % 10)
  have c0 := h.c 3 (by omega)
  have z0 := h.fz 3 (by omega)
  have h1 := h0.set 2 (by omega) (48 + n / 10 % 10)
  have c1 := h0.c 2 (by omega)
  have z1 := h0.fz 2 (by omega)
  have h2 := h1.set 1 (by omega) (48 + n / 10 / 10 % 10)
  have c2 := h1.c 1 (by omega)
  have z2 := h1.fz 1 (by omega)
  have h3 := h2.set 0 (by omega) (48 + n / 10 / 10 / 10 % 10)
  have c3 := h2.c 0 (by omega)
  have z3 := h2.fz 0 (by omega)
  have H : Hid _ := h3
  have BL : Hid (Below b w ((((w.setCell ⟨b, 3, none⟩ (.int .u8 (48 + n % 10))).setCell ⟨b, 2, none⟩ (.int .u8 (48 + n / 10 % 10))).setCell ⟨b, 1, none⟩ (.int .u8 (48 + n / 10 / 10 % 10))).setCell ⟨b, 0, none⟩ (.int .u8 (48 + n / 10 / 10 / 10 % 10)))) := (((((Below.refl b w).setCell (p := ⟨b, 3, none⟩) (Nat.le_refl _) (.int .u8 (48 + n % 10))).setCell (p := ⟨b, 2, none⟩) (Nat.le_refl _) (.int .u8 (48 + n / 10 % 10))).setCell (p := ⟨b, 1, none⟩) (Nat.le_refl _) (.int .u8 (48 + n / 10 / 10 % 10))).setCell (p := ⟨b, 0, none⟩) (Nat.le_refl _) (.int .u8 (48 + n / 10 / 10 / 10 % 10)))
  clear h0
  clear h1
  clear h2
  clear h3
  clear h
  go_enter Tryd.func53, Tryd.ntmps53
  go_wp2_with fail
  go_rounds 5
  go_returns
  exact ⟨rfl, H.out, BL.out⟩

set_option maxHeartbeats 1000000 in
theorem fig_5 (b cap : Nat) (n : Int) (f : Nat → Int) (w : World) (h : R10 w b f) (hcap : 2 ≤ cap) (n0 : 0 ≤ n) (n1 : n ≤ 99) :
    Calls Tryd.prog 53 #[.slice (some ⟨b, 5, none⟩) 2 cap, .int .i64 n] w fun e w' => e = .returned (.tuple #[]) ∧ R10 w' b (upd (upd f 6 (48 + n % 10)) 5 (48 + n / 10 % 10)) ∧ Below b w w' := by
  have h0 := h.set 6 (by omega) (48 + n % 10)
  have c0 := h.c 6 (by omega)
  have z0 := h.fz 6 (by omega)
  have h1 := h0.set 5 (by omega) (48 + n / 10 % 10)
  have c1 := h0.c 5 (by omega)
  have z1 := h0.fz 5 (by omega)
  have H : Hid _ := h1
  have BL : Hid (Below b w ((w.setCell ⟨b, 6, none⟩ (.int .u8 (48 + n % 10))).setCell ⟨b, 5, none⟩ (.int .u8 (48 + n / 10 % 10)))) := (((Below.refl b w).setCell (p := ⟨b, 6, none⟩) (Nat.le_refl _) (.int .u8 (48 + n % 10))).setCell (p := ⟨b, 5, none⟩) (Nat.le_refl _) (.int .u8 (48 + n / 10 % 10)))
  clear h0
  clear h1
  clear h
  go_enter Tryd.func53, Tryd.ntmps53
  go_wp2_with fail
  go_rounds 3
  go_returns
  exact ⟨rfl, H.out, BL.out⟩

set_option maxHeartbeats 1000000 in
theorem fig_8 (b cap : Nat) (n : Int) (f : Nat → Int) (w : World) (h : R10 w b f) (hcap : 2 ≤ cap) (n0 : 0 ≤ n) (n1 : n ≤ 99) :
    Calls Tryd.prog 53 #[.slice (some ⟨b, 8, none⟩) 2 cap, .int .i64 n] w fun e w' => e = .returned (.tuple #[]) ∧ R10 w' b (upd (upd f 9 (48 + n % 10)) 8 (48 + n / 10 % 10)) ∧ Below b w w' := by
  have h0 := h.set 9 (by omega) (48 + n % 10)
  have c0 := h.c 9 (by omega)
  have z0 := h.fz 9 (by omega)
  have h1 := h0.set 8 (by omega) (48 + n / 10 % 10)
  have c1 := h0.c 8 (by omega)
  have z1 := h0.fz 8 (by omega)
  have H : Hid _ := h1
  have BL : Hid (Below b w ((w.setCell ⟨b, 9, none⟩ (.int .u8 (48 + n % 10))).setCell ⟨b, 8, none⟩ (.int .u8 (48 + n / 10 % 10)))) := (((Below.refl b w).setCell (p := ⟨b, 9, none⟩) (Nat.le_refl _) (.int .u8 (48 + n % 10))).setCell (p := ⟨b, 8, none⟩) (Nat.le_refl _) (.int .u8 (48 + n / 10 % 10)))
  clear h0
  clear h1
  clear h
  go_enter Tryd.func53, Tryd.ntmps53
  go_wp2_with fail
  go_rounds 3
  go_returns
  exact ⟨rfl, H.out, BL.out⟩

/-- A day's ten bytes. -/
def dtext (y m d : Int) : List Int := [48 + y / 10 / 10 / 10 % 10, 48 + y / 10 / 10 % 10, 48 + y / 10 % 10, 48 + y % 10, 45, 48 + m / 10 % 10, 48 + m % 10, 45, 48 + d / 10 % 10, 48 + d % 10]
def pat : Nat → Int := fun i => if i = 4 ∨ i = 7 then 45 else 48

def patCells : Array Value := #[.int .u8 48, .int .u8 48, .int .u8 48, .int .u8 48, .int .u8 45, .int .u8 48, .int .u8 48, .int .u8 45, .int .u8 48, .int .u8 48]

set_option maxHeartbeats 1000000 in
theorem text_no (n : Int) (w : World) (h : dayB n = false) :
    Calls Tryd.prog 38 #[.int .i64 n] w fun e w' => e = .returned (.string ByteArray.empty) ∧ w = w' := by
  go_enter Tryd.func38, Tryd.ntmps38
  go_wp2_with (go_at_call 52; refine (date_no _ _ h).mono ?_; rintro e w' ⟨rfl, rfl⟩)
  go_ret
  exact ⟨rfl, rfl⟩

theorem lt10 {P : Nat → Prop} (h0 : P 0) (h1 : P 1) (h2 : P 2) (h3 : P 3) (h4 : P 4) (h5 : P 5) (h6 : P 6) (h7 : P 7) (h8 : P 8) (h9 : P 9) (i : Nat) (hi : i < 10) : P i := by
  match i, hi with
  | 0, _ => exact h0
  | 1, _ => exact h1
  | 2, _ => exact h2
  | 3, _ => exact h3
  | 4, _ => exact h4
  | 5, _ => exact h5
  | 6, _ => exact h6
  | 7, _ => exact h7
  | 8, _ => exact h8
  | 9, _ => exact h9
  | i + 10, hi => exact absurd hi (by omega)

set_option maxHeartbeats 2000000 in
theorem text_yes {n y m d : Int} (w : World) (h : IsDate n y m d) :
    Calls Tryd.prog 38 #[.int .i64 n] w fun e w' => e = .returned (.string (strOfNums (dtext y m d))) ∧ Below w.heap.size w w' := by
  obtain ⟨y0, y1, m0, m1, d0, d1, eq⟩ := id h
  have dl := days_le y m
  clear eq
  have R0 : R10 (w.alloc (.cells patCells 5 (10, 11))) w.heap.size pat := ⟨fun i hi => by
    rw [World.cell?_alloc_mark]
    exact lt10 (P := fun i => patCells[i]? = some (.int .u8 (pat i))) rfl rfl rfl rfl rfl rfl rfl rfl rfl rfl i hi, fun o ho => by rw [World.frozen?_alloc_mark, decide_eq_false (by omega)]; rfl⟩
  have HR : Hid _ := R0
  have kc := fun (w : World) (C : Array Value) (n c : Nat) => Lib.run_convert_bytes_const (P := Tryd.prog) w 42 5 C n c Tryd.underlying42 Tryd.underlying5
  clear R0
  go_enter Tryd.func38, Tryd.ntmps38
  go_wp2_with (go_at_call 52; refine (date_is _ h).mono ?_; rintro e w' ⟨rfl, rfl⟩)
  refine (fig_0 _ _ _ _ _ HR.out (by omega) (by omega) (by omega)).mono ?_
  rintro e w1 ⟨rfl, r1, b1⟩
  have B1 : Hid _ := b1
  have H1 : Hid _ := r1
  clear b1 r1
  go_wp2_with fail
  refine (fig_5 _ _ _ _ _ H1.out (by omega) (by omega) (by omega)).mono ?_
  rintro e w2 ⟨rfl, r2, b2⟩
  have B2 : Hid _ := b2
  have H2 : Hid _ := r2
  clear b2 r2
  go_wp2_with fail
  refine (fig_8 _ _ _ _ _ H2.out (by omega) (by omega) (by omega)).mono ?_
  rintro e w3 ⟨rfl, r3, b3⟩
  have B3 : Hid _ := b3
  have kd := run_convert_bytes_arg (P := Tryd.prog) w3 42 5 Tryd.underlying42 Tryd.underlying5 w.heap.size 0 10 10 (dtext y m d) rfl (fun i hi => by
    rw [Nat.zero_add, r3.c i hi]
    exact lt10 (P := fun i => some (Value.int .u8 (upd (upd (upd (upd (upd (upd (upd (upd pat 3 (48 + y % 10)) 2 (48 + y / 10 % 10)) 1 (48 + y / 10 / 10 % 10)) 0 (48 + y / 10 / 10 / 10 % 10)) 6 (48 + m % 10)) 5 (48 + m / 10 % 10)) 9 (48 + d % 10)) 8 (48 + d / 10 % 10) i)) = some (Value.int .u8 ((dtext y m d).getD i 0))) rfl rfl rfl rfl rfl rfl rfl rfl rfl rfl i hi) 9 Tryd.underlying9
  clear b3 r3
  go_wp2
  go_ret
  refine ⟨rfl, ?_⟩
  have z0 : Below w.heap.size w (w.alloc (.cells patCells 5 (10, 11))) := (Below.refl _ _).alloc (Nat.le_refl _) _
  exact ((z0.trans B1.out).trans B2.out).trans B3.out
end Go.Proofs.YtobolipjgkabhaaDoor
