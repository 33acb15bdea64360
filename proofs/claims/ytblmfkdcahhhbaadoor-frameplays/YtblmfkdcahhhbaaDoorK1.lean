/- The reference's disk (its struct at block p, its sectors' texts at block q); zeros. -/
import Derived.Test.YtblmfkdcahhhbaaDoorEb
import Derived.Deep.LoopGhost
import Derived.Deep.AppendLies
import Derived.Deep.RegionLaw
namespace Go.Proofs.YtblmfkdcahhhbaaDoor
open Go.RowKit
set_option linter.unusedVariables false
set_option linter.unusedSimpArgs false

/-- The reference's disk in memory. -/
structure Kk (w : World) (p q n : Nat) (s : St) : Prop where
  c0 : ∃ cap, w.cell? ⟨p, 0, none⟩ = some (.slice (some ⟨q, 0, none⟩) n cap) ∧ n ≤ cap ∧ cap ≤ maxLen
  c1 : w.cell? ⟨p, 1, none⟩ = some (.bool (!s.on))
  c2 : w.cell? ⟨p, 2, none⟩ = some (.int .i64 (s.left : Nat))
  c3 : ∃ h, w.cell? ⟨p, 3, none⟩ = some (.int .i64 h) ∧ (s.left ≠ 0 → odd h = s.late)
  c4 : w.cell? ⟨p, 4, none⟩ = some (.int .i64 (s.writes : Nat))
  c5 : w.cell? ⟨p, 5, none⟩ = some (.int .i64 (s.lives : Nat))
  row : ∀ i, i < n → w.cell? ⟨q, i, none⟩ = some (.string (strOfNums (s.sec i)))
  fp : ∀ o, w.frozen? ⟨p, o, none⟩ = false
  fq : ∀ o, w.frozen? ⟨q, o, none⟩ = false
  ne : p ≠ q
  ok : s.Ok
  pos : 0 < n
theorem Kk.ltp {w : World} {p q n : Nat} {s : St} (h : Kk w p q n s) : p < w.heap.size := World.block_lt_of_cell? _ _ h.c1
theorem Kk.ltq {w : World} {p q n : Nat} {s : St} (h : Kk w p q n s) : q < w.heap.size := World.block_lt_of_cell? _ _ (h.row 0 h.pos)
theorem Kk.kept {w w' : World} {p q n : Nat} {s : St} (h : Kk w p q n s) (hp : w'.heap[p]? = w.heap[p]?) (hq : w'.heap[q]? = w.heap[q]?) : Kk w' p q n s := by
  have cp : ∀ o, w'.cell? ⟨p, o, none⟩ = w.cell? ⟨p, o, none⟩ := fun o => World.cell?_of_block (w := w) (a := ⟨p, o, none⟩) hp
  have cq : ∀ o, w'.cell? ⟨q, o, none⟩ = w.cell? ⟨q, o, none⟩ := fun o => World.cell?_of_block (w := w) (a := ⟨q, o, none⟩) hq
  refine ⟨by simpa only [cp] using h.c0, by rw [cp]; exact h.c1, by rw [cp]; exact h.c2, by simpa only [cp] using h.c3, by rw [cp]; exact h.c4, by rw [cp]; exact h.c5, fun i hi => by rw [cq]; exact h.row i hi, fun o => ?_, fun o => ?_, h.ne, h.ok, h.pos⟩
  · rw [World.frozen?_of_block (w := w) (a := ⟨p, o, none⟩) hp]; exact h.fp o
  · rw [World.frozen?_of_block (w := w) (a := ⟨q, o, none⟩) hq]; exact h.fq o
theorem Kk.gr {w w' : World} {p q n p' q' : Nat} {s : St} (h : Kk w p q n s) (g : Gr p' q' w w') (h1 : p ≠ p') (h2 : p ≠ q') (h3 : q ≠ p') (h4 : q ≠ q') : Kk w' p q n s :=
  h.kept (g.block p h.ltp h1 h2) (g.block q h.ltq h3 h4)
theorem Kk.below {w w' : World} {p q n : Nat} {s : St} (h : Kk w p q n s) (b : Below w.heap.size w w') : Kk w' p q n s := h.kept (b.block p h.ltp) (b.block q h.ltq)
theorem Kk.drewN {w : World} {p q n : Nat} {s : St} (h : Kk w p q n s) (k : Nat) : Kk (w.drewN k) p q n s := h.kept rfl rfl
theorem Kk.far {w : World} {p q n : Nat} {s : St} (h : Kk w p q n s) (o : Nat) (v : Value) : ∀ i, i < n → (w.setCell ⟨p, o, none⟩ v).cell? ⟨q, i, none⟩ = some (.string (strOfNums (s.sec i))) :=
  fun i hi => by rw [cell_set_far v h.ne]; exact h.row i hi
theorem Kk.set1 {w : World} {p q n : Nat} {s : St} (h : Kk w p q n s) (b : Bool) : Kk (w.setCell ⟨p, 1, none⟩ (.bool (!b))) p q n { s with on := b } :=
  ⟨by rw [cell_set_ne _ (by decide)]; exact h.c0, World.cell?_setCell_same _ _ _ h.c1, by rw [cell_set_ne _ (by decide)]; exact h.c2, by rw [cell_set_ne _ (by decide)]; exact h.c3, by rw [cell_set_ne _ (by decide)]; exact h.c4, by rw [cell_set_ne _ (by decide)]; exact h.c5,
   h.far 1 _, fun o => by simpa using h.fp o, fun o => by simpa using h.fq o, h.ne, h.ok.with rfl h.ok.max, h.pos⟩
/-- A cut that waits is counted down, or none waits. -/
theorem Kk.set2 {w : World} {p q n : Nat} {s : St} (h : Kk w p q n s) (b : Nat) (hb : b ≤ 9223372036854775807) (hl : b ≠ 0 → s.left ≠ 0) : Kk (w.setCell ⟨p, 2, none⟩ (.int .i64 (b : Nat))) p q n { s with left := b } :=
  ⟨by rw [cell_set_ne _ (by decide)]; exact h.c0, by rw [cell_set_ne _ (by decide)]; exact h.c1, World.cell?_setCell_same _ _ _ h.c2, by rw [cell_set_ne _ (by decide)]; obtain ⟨x, h1, h2⟩ := h.c3; exact ⟨x, h1, fun e => h2 (hl e)⟩, by rw [cell_set_ne _ (by decide)]; exact h.c4, by rw [cell_set_ne _ (by decide)]; exact h.c5,
   h.far 2 _, fun o => by simpa using h.fp o, fun o => by simpa using h.fq o, h.ne, h.ok.with rfl hb, h.pos⟩
/-- No cut waits: its lateness means nothing. -/
theorem Kk.any {w : World} {p q n : Nat} {s : St} (h : Kk w p q n s) (hl : s.left = 0) (l : Bool) : Kk w p q n { s with late := l } :=
  ⟨h.c0, h.c1, h.c2, by obtain ⟨x, h1, h2⟩ := h.c3; exact ⟨x, h1, fun e => absurd hl e⟩, h.c4, h.c5, h.row, h.fp, h.fq, h.ne, h.ok.with rfl h.ok.max, h.pos⟩
/-- A cut is told. -/
theorem Kk.set23 {w : World} {p q n : Nat} {s : St} (h : Kk w p q n s) (b : Nat) (hb : b ≤ 9223372036854775807) (x : Int) : Kk ((w.setCell ⟨p, 2, none⟩ (.int .i64 (b : Nat))).setCell ⟨p, 3, none⟩ (.int .i64 x)) p q n { s with left := b, late := odd x } := by
  obtain ⟨y, h1, h2⟩ := h.c3
  refine ⟨by rw [cell_set_ne _ (by decide), cell_set_ne _ (by decide)]; exact h.c0, by rw [cell_set_ne _ (by decide), cell_set_ne _ (by decide)]; exact h.c1, by rw [cell_set_ne _ (by decide)]; exact World.cell?_setCell_same _ _ _ h.c2, ⟨x, World.cell?_setCell_same _ _ _ (by rw [cell_set_ne _ (by decide)]; exact h1), fun _ => rfl⟩, by rw [cell_set_ne _ (by decide), cell_set_ne _ (by decide)]; exact h.c4, by rw [cell_set_ne _ (by decide), cell_set_ne _ (by decide)]; exact h.c5,
   fun i hi => by rw [cell_set_far _ h.ne, cell_set_far _ h.ne]; exact h.row i hi, fun o => by simpa using h.fp o, fun o => by simpa using h.fq o, h.ne, h.ok.with rfl hb, h.pos⟩
theorem Kk.set4 {w : World} {p q n : Nat} {s : St} (h : Kk w p q n s) (b : Nat) : Kk (w.setCell ⟨p, 4, none⟩ (.int .i64 (b : Nat))) p q n { s with writes := b } :=
  ⟨by rw [cell_set_ne _ (by decide)]; exact h.c0, by rw [cell_set_ne _ (by decide)]; exact h.c1, by rw [cell_set_ne _ (by decide)]; exact h.c2, by rw [cell_set_ne _ (by decide)]; exact h.c3, World.cell?_setCell_same _ _ _ h.c4, by rw [cell_set_ne _ (by decide)]; exact h.c5,
   h.far 4 _, fun o => by simpa using h.fp o, fun o => by simpa using h.fq o, h.ne, h.ok.with rfl h.ok.max, h.pos⟩
theorem Kk.set5 {w : World} {p q n : Nat} {s : St} (h : Kk w p q n s) (b : Nat) : Kk (w.setCell ⟨p, 5, none⟩ (.int .i64 (b : Nat))) p q n { s with lives := b } :=
  ⟨by rw [cell_set_ne _ (by decide)]; exact h.c0, by rw [cell_set_ne _ (by decide)]; exact h.c1, by rw [cell_set_ne _ (by decide)]; exact h.c2, by rw [cell_set_ne _ (by decide)]; exact h.c3, by rw [cell_set_ne _ (by decide)]; exact h.c4, World.cell?_setCell_same _ _ _ h.c5,
   h.far 5 _, fun o => by simpa using h.fp o, fun o => by simpa using h.fq o, h.ne, h.ok.with rfl h.ok.max, h.pos⟩
/-- A sector's text is laid. -/
theorem Kk.put {w : World} {p q n i : Nat} {s : St} {b : List Int} (h : Kk w p q n s) (hi : i < n) (hb : b.length ≤ 64) (hy : Bys b) : Kk (w.setCell ⟨q, i, none⟩ (.string (strOfNums (pad b)))) p q n (s.put i b) :=
  ⟨by simpa only [cell_set_far _ h.ne.symm] using h.c0, by rw [cell_set_far _ h.ne.symm]; exact h.c1, by rw [cell_set_far _ h.ne.symm]; exact h.c2, by rw [cell_set_far _ h.ne.symm]; exact h.c3, by rw [cell_set_far _ h.ne.symm]; exact h.c4, by rw [cell_set_far _ h.ne.symm]; exact h.c5,
   fun k hk => by
    show (w.setCell ⟨q, i, none⟩ (.string (strOfNums (pad b)))).cell? ⟨q, k, none⟩ = some (.string (strOfNums (upd s.sec i (pad b) k)))
    unfold upd
    split
    · rename_i e; subst e; exact World.cell?_setCell_same _ _ _ (h.row k hk)
    · rename_i e; rw [cell_set_ne _ (fun c => e c.symm)]; exact h.row k hk, fun o => by simpa using h.fp o, fun o => by simpa using h.fq o, h.ne, h.ok.put i hb hy, h.pos⟩
theorem Gr.setq (p : Nat) {q : Nat} (w : World) (o : Nat) (v : Value) : Gr p q w (w.setCell ⟨q, o, none⟩ v) :=
  ⟨rfl, rfl, rfl, by simp, fun k _ _ hk => Below.heap_setCell w ⟨q, o, none⟩ v k hk⟩

set_option maxHeartbeats 1000000 in
theorem zeros_any (m : Nat) (w : World) (h : m ≤ 1000) : Calls Tryd.prog 39 #[.int .i64 (m : Nat)] w fun e w' => e = .returned (.string (strOfNums (List.replicate m 0))) ∧ w.alloc (.cells (vals (List.replicate m 0)).toArray 5) = w' := by
  have mk := make_z w m (by omega)
  have y := by_const w (List.replicate m 0) (fun x hx => by have := List.eq_of_mem_replicate hx; omega) (by simpa using h) (0, 0) 5
  rw [List.length_replicate] at y
  have st := y.str
  generalize vals (List.replicate m 0) = C at *
  generalize strOfNums (List.replicate m 0) = x at *
  clear y
  go_enter Tryd.func39, Tryd.ntmps39
  go_wp2
  go_ret
  exact ⟨rfl, rfl⟩

end Go.Proofs.YtblmfkdcahhhbaaDoor
