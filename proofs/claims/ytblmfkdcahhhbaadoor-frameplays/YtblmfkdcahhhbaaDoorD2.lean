/- The walks over package disk: has, Power, Writes, Lives, Sectors, falls, On. -/
import Derived.Test.YtblmfkdcahhhbaaDoorD1
namespace Go.Proofs.YtblmfkdcahhhbaaDoor
open Go.RowKit
set_option linter.unusedVariables false
set_option linter.unusedSimpArgs false

theorem cell_set_ne {w : World} {p o o' : Nat} (v : Value) (h : o ≠ o') : (w.setCell ⟨p, o, none⟩ v).cell? ⟨p, o', none⟩ = w.cell? ⟨p, o', none⟩ :=
  World.cell?_setCell_other _ _ _ _ (fun e => h (by injection e))
theorem cell_set_far {w : World} {p q o o' : Nat} (v : Value) (h : p ≠ q) : (w.setCell ⟨p, o, none⟩ v).cell? ⟨q, o', none⟩ = w.cell? ⟨q, o', none⟩ :=
  World.cell?_setCell_other _ _ _ _ (fun e => h (by injection e))
theorem Dk.far {w : World} {p q n : Nat} {s : St} (h : Dk w p q n s) (o : Nat) (v : Value) : ∀ i, i < n → (w.setCell ⟨p, o, none⟩ v).rangeAt q (i * 64) ((s.sec i).map (Value.int .u8)) :=
  fun i hi j u hu => by rw [cell_set_far v h.ne]; exact h.row i hi j u hu
theorem Dk.set1 {w : World} {p q n : Nat} {s : St} (h : Dk w p q n s) (b : Bool) : Dk (w.setCell ⟨p, 1, none⟩ (.bool b)) p q n { s with on := b } :=
  ⟨by rw [cell_set_ne _ (by decide)]; exact h.c0, World.cell?_setCell_same _ _ _ h.c1, by rw [cell_set_ne _ (by decide)]; exact h.c2, by rw [cell_set_ne _ (by decide)]; exact h.c3, by rw [cell_set_ne _ (by decide)]; exact h.c4, by rw [cell_set_ne _ (by decide)]; exact h.c5,
   h.far 1 _, fun o => by simpa using h.fp o, fun o => by simpa using h.fq o, h.ne, h.ok.with rfl h.ok.max, h.pos⟩
theorem Dk.set2 {w : World} {p q n : Nat} {s : St} (h : Dk w p q n s) (b : Nat) : Dk (w.setCell ⟨p, 2, none⟩ (.int .i64 (b : Nat))) p q n { s with writes := b } :=
  ⟨by rw [cell_set_ne _ (by decide)]; exact h.c0, by rw [cell_set_ne _ (by decide)]; exact h.c1, World.cell?_setCell_same _ _ _ h.c2, by rw [cell_set_ne _ (by decide)]; exact h.c3, by rw [cell_set_ne _ (by decide)]; exact h.c4, by rw [cell_set_ne _ (by decide)]; exact h.c5,
   h.far 2 _, fun o => by simpa using h.fp o, fun o => by simpa using h.fq o, h.ne, h.ok.with rfl h.ok.max, h.pos⟩
theorem Dk.set3 {w : World} {p q n : Nat} {s : St} (h : Dk w p q n s) (b : Nat) : Dk (w.setCell ⟨p, 3, none⟩ (.int .i64 (b : Nat))) p q n { s with lives := b } :=
  ⟨by rw [cell_set_ne _ (by decide)]; exact h.c0, by rw [cell_set_ne _ (by decide)]; exact h.c1, by rw [cell_set_ne _ (by decide)]; exact h.c2, World.cell?_setCell_same _ _ _ h.c3, by rw [cell_set_ne _ (by decide)]; exact h.c4, by rw [cell_set_ne _ (by decide)]; exact h.c5,
   h.far 3 _, fun o => by simpa using h.fp o, fun o => by simpa using h.fq o, h.ne, h.ok.with rfl h.ok.max, h.pos⟩
theorem Dk.set4 {w : World} {p q n : Nat} {s : St} (h : Dk w p q n s) (b : Nat) (hb : b ≤ 9223372036854775807) : Dk (w.setCell ⟨p, 4, none⟩ (.int .i64 (b : Nat))) p q n { s with left := b } :=
  ⟨by rw [cell_set_ne _ (by decide)]; exact h.c0, by rw [cell_set_ne _ (by decide)]; exact h.c1, by rw [cell_set_ne _ (by decide)]; exact h.c2, by rw [cell_set_ne _ (by decide)]; exact h.c3, World.cell?_setCell_same _ _ _ h.c4, by rw [cell_set_ne _ (by decide)]; exact h.c5,
   h.far 4 _, fun o => by simpa using h.fp o, fun o => by simpa using h.fq o, h.ne, h.ok.with rfl hb, h.pos⟩
theorem Dk.set5 {w : World} {p q n : Nat} {s : St} (h : Dk w p q n s) (b : Bool) : Dk (w.setCell ⟨p, 5, none⟩ (.bool b)) p q n { s with late := b } :=
  ⟨by rw [cell_set_ne _ (by decide)]; exact h.c0, by rw [cell_set_ne _ (by decide)]; exact h.c1, by rw [cell_set_ne _ (by decide)]; exact h.c2, by rw [cell_set_ne _ (by decide)]; exact h.c3, by rw [cell_set_ne _ (by decide)]; exact h.c4, World.cell?_setCell_same _ _ _ h.c5,
   h.far 5 _, fun o => by simpa using h.fp o, fun o => by simpa using h.fq o, h.ne, h.ok.with rfl h.ok.max, h.pos⟩

theorem has_any (p q n : Nat) (s : St) (i : Int) (w : World) (h : Dk w p q n s) :
    Calls Tryd.prog 46 #[.pointer (some ⟨p, 0, none⟩), .int .i64 i] w fun e w' => e = .returned (.bool (has n i)) ∧ w = w' := by
  obtain ⟨cap, c0, -, -⟩ := h.c0
  clear h
  by_cases h0 : 0 ≤ i
  · by_cases h1 : i < (n : Int)
    · have e : has n i = true := decide_eq_true ⟨h0, h1⟩
      rw [e]
      go_enter Tryd.func46, Tryd.ntmps46
      go_wp2
      go_ret
      exact ⟨rfl, rfl⟩
    · have e : has n i = false := decide_eq_false (fun k => h1 k.2)
      rw [e]
      go_enter Tryd.func46, Tryd.ntmps46
      go_wp2
      go_ret
      exact ⟨rfl, rfl⟩
  · have e : has n i = false := decide_eq_false (fun k => h0 k.1)
    rw [e]
    go_enter Tryd.func46, Tryd.ntmps46
    go_wp2
    go_ret
    exact ⟨rfl, rfl⟩
theorem Power_any (p q n : Nat) (s : St) (w : World) (h : Dk w p q n s) :
    Calls Tryd.prog 30 #[.pointer (some ⟨p, 0, none⟩)] w fun e w' => e = .returned (.bool s.on) ∧ w = w' := by
  have c := h.c1
  clear h
  go_enter Tryd.func30, Tryd.ntmps30
  go_wp2
  go_ret
  exact ⟨rfl, rfl⟩
theorem Lives_any (p q n : Nat) (s : St) (w : World) (h : Dk w p q n s) :
    Calls Tryd.prog 31 #[.pointer (some ⟨p, 0, none⟩)] w fun e w' => e = .returned (.int .i64 (s.lives : Nat)) ∧ w = w' := by
  have c := h.c3
  clear h
  go_enter Tryd.func31, Tryd.ntmps31
  go_wp2
  go_ret
  exact ⟨rfl, rfl⟩
theorem Sectors_any (p q n : Nat) (s : St) (w : World) (h : Dk w p q n s) :
    Calls Tryd.prog 29 #[.pointer (some ⟨p, 0, none⟩)] w fun e w' => e = .returned (.int .i64 (n : Nat)) ∧ w = w' := by
  obtain ⟨cap, c0, -, -⟩ := h.c0
  clear h
  go_enter Tryd.func29, Tryd.ntmps29
  go_wp2
  go_ret
  exact ⟨rfl, rfl⟩

theorem retV' {v v' : Value} (h : v = v') : Ending.returned v = .returned v' := by rw [h]
set_option maxHeartbeats 1000000 in
theorem falls_any (p q n : Nat) (s : St) (w : World) (h : Dk w p q n s) :
    Calls Tryd.prog 47 #[.pointer (some ⟨p, 4, none⟩)] w fun e w' => e = .returned (.bool (decide (s.left = 1))) ∧ Dk w' p q n { s with left := s.left - 1 } ∧ Gr p q w w' := by
  have c := h.c4
  have f := h.fp
  have H : Hid _ := h
  have m := h.ok.max
  clear h
  obtain ⟨k, hk⟩ : ∃ k, s.left = k := ⟨_, rfl⟩
  rw [hk] at c m ⊢
  have HK : Hid _ := hk
  clear hk
  rcases Nat.eq_zero_or_pos k with rfl | kp
  · go_enter Tryd.func47, Tryd.ntmps47
    go_wp2
    go_ret
    refine ⟨rfl, ?_, Gr.refl _ _ _⟩
    have := H.out
    have e : ({ s with left := 0 - 1 } : St) = s := by rw [← HK.out]; simp [HK.out]; rw [← HK.out]
    rw [e]; exact this
  · obtain ⟨j, rfl⟩ : ∃ j, k = j + 1 := ⟨k - 1, by omega⟩
    have e1 : (((j + 1 : Nat) : Int) == 0) = false := beq_eq_false_iff_ne.2 (by omega)
    have D : Hid _ := H.out.set4 j (by omega)
    have jm : (j : Int) ≤ 9223372036854775806 := by omega
    have e0 : ((j + 1 : Nat) : Int) = (j : Int) + 1 := by omega
    rw [e0] at c
    have e2 : (((j : Int) + 1) == 0) = false := beq_eq_false_iff_ne.2 (by omega)
    clear e1 e0
    by_cases j0 : j = 0
    · subst j0
      go_enter Tryd.func47, Tryd.ntmps47
      go_wp2
      go_ret
      exact ⟨rfl, D.out, Gr.set q _ _ _⟩
    · have e3 : ((j : Int) == 0) = false := beq_eq_false_iff_ne.2 (by omega)
      have e4 : decide (j + 1 = 1) = false := decide_eq_false (by omega)
      rw [e4]
      go_enter Tryd.func47, Tryd.ntmps47
      go_wp2
      go_ret
      exact ⟨rfl, D.out, Gr.set q _ _ _⟩

set_option maxHeartbeats 1000000 in
theorem On_any (p q n : Nat) (s : St) (w : World) (h : Dk w p q n s) (hl : s.lives ≤ 1000000) :
    Calls Tryd.prog 12 #[.pointer (some ⟨p, 0, none⟩)] w fun e w' => e = .returned (.tuple #[]) ∧ Dk w' p q n s.onAgain ∧ Gr p q w w' := by
  have c1 := h.c1
  have c3 := h.c3
  have c4 := h.c4
  have c5 := h.c5
  have f := h.fp
  have hl' : ((s.lives : Nat) : Int) ≤ 1000000 := by omega
  have D : Hid (Dk _ p q n s.onAgain) := ((((h.set1 true).set4 0 (by decide)).set5 false).set3 (s.lives + 1))
  have G : Hid _ := (((Gr.set (p := p) q w 1 (.bool true)).trans (Gr.set q _ 4 (.int .i64 (0 : Nat)))).trans (Gr.set q _ 5 (.bool false))).trans (Gr.set q _ 3 (.int .i64 ((s.lives + 1 : Nat) : Nat)))
  clear h
  generalize s.lives = k at *
  go_enter Tryd.func12, Tryd.ntmps12
  go_wp2
  go_returns
  exact ⟨rfl, D.out, G.out⟩

end Go.Proofs.YtblmfkdcahhhbaaDoor
