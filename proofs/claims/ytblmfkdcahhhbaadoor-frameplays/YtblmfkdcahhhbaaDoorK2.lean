/- The walks over the reference's disk: Arm, On, NewDisk. -/
import Derived.Test.YtblmfkdcahhhbaaDoorK1
namespace Go.Proofs.YtblmfkdcahhhbaaDoor
open Go.RowKit
set_option linter.unusedVariables false
set_option linter.unusedSimpArgs false

set_option maxHeartbeats 1000000 in
theorem KOn_any (p q n : Nat) (s : St) (w : World) (h : Kk w p q n s) (hl : s.lives ≤ 1000000) :
    Calls Tryd.prog 24 #[.pointer (some ⟨p, 0, none⟩)] w fun e w' => e = .returned (.tuple #[]) ∧ Kk w' p q n s.onAgain ∧ Gr p q w w' := by
  have c1 := h.c1
  have c2 := h.c2
  have c5 := h.c5
  have f := h.fp
  have hl' : ((s.lives : Nat) : Int) ≤ 1000000 := by omega
  have D : Hid (Kk _ p q n s.onAgain) := (((h.set1 true).set2 0 (by decide) (fun e => absurd rfl e)).set5 (s.lives + 1)).any rfl false
  have G : Hid _ := ((Gr.set (p := p) q w 1 (.bool false)).trans (Gr.set q _ 2 (.int .i64 (0 : Nat)))).trans (Gr.set q _ 5 (.int .i64 ((s.lives + 1 : Nat) : Nat)))
  clear h
  generalize s.lives = k at *
  go_enter Tryd.func24, Tryd.ntmps24
  go_wp2
  go_returns
  exact ⟨rfl, D.out, G.out⟩

theorem Kk.set223 {w : World} {p q n : Nat} {s : St} (h : Kk w p q n s) (u : Value) (b : Nat) (hb : b ≤ 9223372036854775807) (x : Int) : Kk (((w.setCell ⟨p, 2, none⟩ u).setCell ⟨p, 2, none⟩ (.int .i64 (b : Nat))).setCell ⟨p, 3, none⟩ (.int .i64 x)) p q n { s with left := b, late := odd x } := by
  obtain ⟨y, h1, h2⟩ := h.c3
  refine ⟨by rw [cell_set_ne _ (by decide), cell_set_ne _ (by decide), cell_set_ne _ (by decide)]; exact h.c0, by rw [cell_set_ne _ (by decide), cell_set_ne _ (by decide), cell_set_ne _ (by decide)]; exact h.c1, by rw [cell_set_ne _ (by decide)]; exact World.cell?_setCell_same _ _ _ (World.cell?_setCell_same _ _ _ h.c2), ⟨x, World.cell?_setCell_same _ _ _ (by rw [cell_set_ne _ (by decide), cell_set_ne _ (by decide)]; exact h1), fun _ => rfl⟩, by rw [cell_set_ne _ (by decide), cell_set_ne _ (by decide), cell_set_ne _ (by decide)]; exact h.c4, by rw [cell_set_ne _ (by decide), cell_set_ne _ (by decide), cell_set_ne _ (by decide)]; exact h.c5,
   fun i hi => by rw [cell_set_far _ h.ne, cell_set_far _ h.ne, cell_set_far _ h.ne]; exact h.row i hi, fun o => by simpa using h.fp o, fun o => by simpa using h.fq o, h.ne, h.ok.with rfl hb, h.pos⟩
set_option maxHeartbeats 1000000 in
theorem Arm_any (p q n : Nat) (s : St) (m h : Int) (w : World) (hd : Kk w p q n s) (hm : m ≤ 9223372036854775807) :
    Calls Tryd.prog 20 #[.pointer (some ⟨p, 0, none⟩), .int .i64 m, .int .i64 h] w fun e w' => e = .returned (.tuple #[]) ∧ Kk w' p q n (s.cutTo m (odd h)) ∧ Gr p q w w' := by
  have c2 := hd.c2
  obtain ⟨y, c3, -⟩ := hd.c3
  have f := hd.fp
  by_cases h1 : m < 1
  · have D : Hid (Kk (((w.setCell ⟨p, 2, none⟩ (.int .i64 m)).setCell ⟨p, 2, none⟩ (.int .i64 (0 : Nat))).setCell ⟨p, 3, none⟩ (.int .i64 h)) p q n (s.cutTo m (odd h))) := by
      have e : m.toNat = 0 := by omega
      show Kk _ p q n { s with left := m.toNat, late := odd h }
      rw [e]
      exact hd.set223 _ 0 (by decide) h
    have G : Hid _ := ((Gr.set (p := p) q w 2 (.int .i64 m)).trans (Gr.set q _ 2 (.int .i64 (0 : Nat)))).trans (Gr.set q _ 3 (.int .i64 h))
    clear hd hm
    go_enter Tryd.func20, Tryd.ntmps20
    go_wp2
    go_returns
    exact ⟨rfl, D.out, G.out⟩
  · obtain ⟨k, rfl⟩ : ∃ k : Nat, m = k := ⟨m.toNat, by omega⟩
    have D : Hid (Kk _ p q n (s.cutTo (k : Int) (odd h))) := hd.set23 k (by omega) h
    have G : Hid _ := (Gr.set (p := p) q w 2 (.int .i64 (k : Nat))).trans (Gr.set q _ 3 (.int .i64 h))
    clear hd hm
    go_enter Tryd.func20, Tryd.ntmps20
    go_wp2
    go_returns
    exact ⟨rfl, D.out, G.out⟩

end Go.Proofs.YtblmfkdcahhhbaaDoor
