/- Following the outputs, plainly; its rows in memory. -/
import Derived.Test.YtjkbiglnpoeddaaDoorVfs
namespace Go.Proofs.YtjkbiglnpoeddaaDoor.Vf
open Go.RowKit
set_option linter.unusedVariables false
set_option linter.unusedSimpArgs false

/-- Which places are known behind an instruction; the first halt that is not as it must be. -/
def gnF (ts : List Int) (kn : List Bool) : List Bool := ts.foldl (fun a t => a.set t.toNat true) kn
def rnO (all : Int) : List Ins → Nat → List Bool → Option Nat
  | [], _, _ => none
  | i :: r, k, kn => if kn.getD k false = true then (if otB all i 0 = true then rnO all r (k + 1) (gnF (onwF k i) kn) else some k) else rnO all r (k + 1) kn
def folO (p : Pg) (all : Int) : Option Nat := rnO all p.co 0 ((List.replicate p.co.length false).set 0 true)
theorem rnO_eq {p : Pg} {all : Int} {i : Nat} {x : Ins} {kn : List Bool} {G : Option Nat} (hx : p.co[i]? = some x) (h : rnO all (p.co.drop i) i kn = G) : (if kn.getD i false = true then (if otB all x 0 = true then rnO all (p.co.drop (i + 1)) (i + 1) (gnF (onwF i x) kn) else some i) else rnO all (p.co.drop (i + 1)) (i + 1) kn) = G := by
  have hi : i < p.co.length := (List.getElem?_eq_some_iff.1 hx).1
  have e : p.co[i] = x := (List.getElem?_eq_some_iff.1 hx).2
  rw [List.drop_eq_getElem_cons hi, e] at h
  exact h
/-- The states in memory: marks and outputs, and which are known. -/
structure SB (w : World) (sb kb : Nat) (kn : List Bool) : Prop where
  cs : ∀ (j : Nat) b, kn[j]? = some b → w.cell? ⟨sb, j * 2, none⟩ = some (.int .i64 (if b = true then -1 else 0)) ∧ w.cell? ⟨sb, j * 2 + 1, none⟩ = some (.int .u64 0) ∧ w.cell? ⟨kb, j, none⟩ = some (.bool b)
  fz : ∀ j, w.frozen? ⟨sb, j, none⟩ = false ∧ w.frozen? ⟨kb, j, none⟩ = false
  ne : sb ≠ kb ∧ sb < w.heap.size ∧ kb < w.heap.size
theorem SB.kx {w w' : World} {sb kb : Nat} {kn : List Bool} {bs : List Nat} (h : SB w sb kb kn) (k : Kx bs w w') (h1 : sb ∉ bs) (h2 : kb ∉ bs) : SB w' sb kb kn :=
  ⟨fun j o hj => ⟨k.cell h1 (h.cs j o hj).1, k.cell h1 (h.cs j o hj).2.1, k.cell h2 (h.cs j o hj).2.2⟩, fun j => ⟨(World.frozen?_of_block (a := ⟨sb, j, none⟩) (k.kp sb h.ne.2.1 h1)).trans (h.fz j).1, (World.frozen?_of_block (a := ⟨kb, j, none⟩) (k.kp kb h.ne.2.2 h2)).trans (h.fz j).2⟩, h.ne.1, Nat.lt_of_lt_of_le h.ne.2.1 k.size, Nat.lt_of_lt_of_le h.ne.2.2 k.size⟩
theorem SB.next {w w' : World} {sb kb : Nat} {kn : List Bool} (h : SB w sb kb kn) (k : Below w.heap.size w w') : SB w' sb kb kn := h.kx (Kx.of [] k) (by simp) (by simp)
def setB (w : World) (sb kb j : Nat) : World := ((w.setCell ⟨sb, j * 2, none⟩ (.int .i64 (-1))).setCell ⟨sb, j * 2 + 1, none⟩ (.int .u64 0)).setCell ⟨kb, j, none⟩ (.bool true)
theorem SB.set {w : World} {sb kb : Nat} {kn : List Bool} (h : SB w sb kb kn) {j : Nat} (hj : j < kn.length) : SB (setB w sb kb j) sb kb (kn.set j true) := by
  obtain ⟨o, ho⟩ : ∃ o, kn[j]? = some o := ⟨_, List.getElem?_eq_getElem hj⟩
  have n1 := h.ne.1
  obtain ⟨a1, a2, a3⟩ := h.cs j o ho
  unfold setB
  refine ⟨fun i o' hi => ?_, fun i => ⟨?_, ?_⟩, n1, by simpa using h.ne.2.1, by simpa using h.ne.2.2⟩
  · rw [List.getElem?_set] at hi
    by_cases e : j = i
    · subst e
      rw [if_pos rfl, if_pos hj] at hi
      injection hi with hi
      subst hi
      refine ⟨(cell_other (Or.inl (fun e => n1 e.symm))).trans ((cell_other (Or.inr (by show j * 2 + 1 ≠ j * 2; omega))).trans (World.cell?_setCell_same _ _ _ a1)), (cell_other (Or.inl (fun e => n1 e.symm))).trans (World.cell?_setCell_same _ _ _ ((cell_other (Or.inr (by show j * 2 ≠ j * 2 + 1; omega))).trans a2)), World.cell?_setCell_same _ _ _ ((cell_other (Or.inl n1)).trans ((cell_other (Or.inl n1)).trans a3))⟩
    · rw [if_neg e] at hi
      obtain ⟨b1, b2, b3⟩ := h.cs i o' hi
      exact ⟨(cell_other (Or.inl (fun e => n1 e.symm))).trans ((cell_other (Or.inr (by show j * 2 + 1 ≠ i * 2; omega))).trans ((cell_other (Or.inr (by show j * 2 ≠ i * 2; omega))).trans b1)), (cell_other (Or.inl (fun e => n1 e.symm))).trans ((cell_other (Or.inr (by show j * 2 + 1 ≠ i * 2 + 1; omega))).trans ((cell_other (Or.inr (by show j * 2 ≠ i * 2 + 1; omega))).trans b2)), (cell_other (Or.inr e)).trans ((cell_other (Or.inl n1)).trans ((cell_other (Or.inl n1)).trans b3))⟩
  · rw [fz_set, fz_set, fz_set]; exact (h.fz i).1
  · rw [fz_set, fz_set, fz_set]; exact (h.fz i).2
theorem setB_kx (w : World) (sb kb j : Nat) : Kx [sb, kb] w (setB w sb kb j) :=
  (((Kx.refl [sb, kb] w).set (p := sb) _ (by simp)).set (p := sb) _ (by simp)).set (p := kb) _ (by simp)
theorem info_prog : (Tryd.prog.info? 76).map (fun i => (i.zero, i.size, i.bytes)) = some (some (.agg #[.int .i64 0, .int .u64 0]), 2, 16) := by kernel_rfl
theorem make_progs (w : World) (n : Nat) (h : n ≤ 100000) : ∃ o, (Instr.makeSlice 96 (.int .i64 (n : Nat)) (.int .i64 (n : Nat))).run Tryd.prog w = .ok (.slice (some ⟨w.heap.size, 0, none⟩) n n) (w.alloc (.cells o 76)) ∧ ∀ j, j < n → o[j * 2]? = some (.int .i64 0) ∧ o[j * 2 + 1]? = some (.int .u64 0) := by
  obtain ⟨i0, hi, hz0, hz1, hz2⟩ := info_parts info_prog
  have hr := run_make (P := Tryd.prog) w 96 76 i0 _ Tryd.underlying96 hi hz0 .i64 .i64 n n (by omega) (Int.le_refl _) (by rw [hz2]; omega) (by omega)
  rw [hz1, Int.toNat_natCast] at hr
  refine ⟨_, hr, fun j hj => ?_⟩
  show (madeCells #[.int .i64 0, .int .u64 0] (n * 2))[j * 2]? = _ ∧ (madeCells #[.int .i64 0, .int .u64 0] (n * 2))[j * 2 + 1]? = _
  unfold madeCells
  constructor
  · simp [show j * 2 < n * 2 by omega]
  · have e : (j * 2 + 1) % 2 = 1 := by omega
    simp [show j * 2 + 1 < n * 2 by omega, e]
theorem SB.new {w1 : World} {n : Nat} {o1 o2 : Array Value} (z1 : ∀ j, j < n → o1[j * 2]? = some (.int .i64 0) ∧ o1[j * 2 + 1]? = some (.int .u64 0)) (z2 : ∀ j, j < n → o2[j]? = some (.bool false)) :
    SB ((w1.alloc (.cells o1 76)).alloc (.cells o2 4)) w1.heap.size (w1.heap.size + 1) (List.replicate n false) := by
  have e : (w1.alloc (.cells o1 76)).heap.size = w1.heap.size + 1 := by simp
  have h1 : ((w1.alloc (.cells o1 76)).alloc (.cells o2 4)).heap[w1.heap.size]? = some (.cells o1 76 (0, 0)) := by
    rw [(allocB (w1.alloc (.cells o1 76)) (.cells o2 4)).block w1.heap.size (by rw [e]; omega)]
    exact heap_alloc_new w1 _
  have h2 : ((w1.alloc (.cells o1 76)).alloc (.cells o2 4)).heap[w1.heap.size + 1]? = some (.cells o2 4 (0, 0)) := by
    rw [← e]
    exact heap_alloc_new (w1.alloc (.cells o1 76)) _
  refine ⟨fun j o hj => ?_, fun j => ⟨by simp only [World.frozen?, h1]; simp, by simp only [World.frozen?, h2]; simp⟩, by omega, by simp; omega, by simp⟩
  rw [List.getElem?_replicate] at hj
  split at hj
  · rename_i q
    injection hj with hj
    subst hj
    exact ⟨by simp only [World.cell?, h1]; exact (z1 j q).1, by simp only [World.cell?, h1]; exact (z1 j q).2, by simp only [World.cell?, h2]; exact z2 j q⟩
  · cases hj
/-- Between two rounds of follow. -/
structure FJ (W0 w wr : World) (sb kb n : Nat) (kn : List Bool) : Prop where
  kx : Kx [sb, kb] w wr
  bl : Below W0.heap.size W0 wr
  sa : SB wr sb kb kn
  ln : kn.length = n
theorem FJ.next {W0 w a b : World} {sb kb n : Nat} {kn : List Bool} (h : FJ W0 w a sb kb n kn) (k : Below a.heap.size a b) : FJ W0 w b sb kb n kn := ⟨h.kx.next k, h.bl.trans (k.mono h.bl.size), h.sa.next k, h.ln⟩
theorem FJ.set {W0 w a : World} {sb kb n : Nat} {kn : List Bool} (h : FJ W0 w a sb kb n kn) (hs : W0.heap.size ≤ sb) (hk : W0.heap.size ≤ kb) {j : Nat} (hj : j < n) : FJ W0 w (setB a sb kb j) sb kb n (kn.set j true) :=
  ⟨h.kx.trans (setB_kx a sb kb j), h.bl.trans ((setB_kx a sb kb j).bel h.bl.size (fun i hi => by simp at hi; rcases hi with e | e <;> subst e; exact hs; exact hk)), h.sa.set (by rw [h.ln]; exact hj), by simp; exact h.ln⟩

end Go.Proofs.YtjkbiglnpoeddaaDoor.Vf
