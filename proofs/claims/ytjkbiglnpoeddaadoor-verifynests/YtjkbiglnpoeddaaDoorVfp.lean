/- Following the stacks, plainly; its rows in memory. -/
import Derived.Test.YtjkbiglnpoeddaaDoorVfo
namespace Go.Proofs.YtjkbiglnpoeddaaDoor.Vf
open Go.RowKit
set_option linter.unusedVariables false
set_option linter.unusedSimpArgs false

structure FS where
  st : List (Option ByteArray)
  sg : Int
  ft : Option Nat
/-- Bringing a stack to places. -/
def goF (k : Nat) (s : ByteArray) : List Int → FS → FS
  | [], F => F
  | t :: r, F => match F.st.getD t.toNat none with
    | some s' => if (s'.toList == s.toList) = true then goF k s r { F with st := F.st.set t.toNat (some s) } else { F with ft := some k }
    | none => goF k s r { F with st := F.st.set t.toNat (some s) }
/-- An instruction. -/
def stpA (p : Pg) (i : Ins) (k : Nat) (F : FS) : FS := match F.st.getD k none with
  | none => F
  | some s => if (stkO i (stkF p i s)).2 = true then goF k (stkO i (stkF p i s)).1 (onwF k i) { F with sg := stkM F.sg (stkF p i s) } else { F with sg := stkM F.sg (stkF p i s), ft := some k }
def runF (p : Pg) : List Ins → Nat → FS → FS
  | [], _, F => F
  | i :: r, k, F => match (stpA p i k F).ft with
    | some _ => stpA p i k F
    | none => runF p r (k + 1) (stpA p i k F)
def iniF (n : Nat) : FS := ⟨(List.replicate n none).set 0 (some ⟨#[]⟩), 0, none⟩
def folF (p : Pg) : FS := runF p p.co 0 (iniF p.co.length)
/-- What follow answers. -/
def foO : Option Nat → Value
  | none => .tuple #[.int .i64 (-1), .bool true]
  | some k => .tuple #[.int .i64 (k : Nat), .bool false]
/-- The states in memory: texts, and which are known. -/
structure SA (w : World) (sb kb : Nat) (st : List (Option ByteArray)) : Prop where
  cs : ∀ (j : Nat) o, st[j]? = some o → w.cell? ⟨sb, j, none⟩ = some (.string (o.getD ⟨#[]⟩)) ∧ w.cell? ⟨kb, j, none⟩ = some (.bool o.isSome)
  fz : ∀ j, w.frozen? ⟨sb, j, none⟩ = false ∧ w.frozen? ⟨kb, j, none⟩ = false
  ne : sb ≠ kb ∧ sb < w.heap.size ∧ kb < w.heap.size
theorem SA.kx {w w' : World} {sb kb : Nat} {st : List (Option ByteArray)} {bs : List Nat} (h : SA w sb kb st) (k : Kx bs w w') (h1 : sb ∉ bs) (h2 : kb ∉ bs) : SA w' sb kb st :=
  ⟨fun j o hj => ⟨k.cell h1 (h.cs j o hj).1, k.cell h2 (h.cs j o hj).2⟩, fun j => ⟨(World.frozen?_of_block (a := ⟨sb, j, none⟩) (k.kp sb h.ne.2.1 h1)).trans (h.fz j).1, (World.frozen?_of_block (a := ⟨kb, j, none⟩) (k.kp kb h.ne.2.2 h2)).trans (h.fz j).2⟩, h.ne.1, Nat.lt_of_lt_of_le h.ne.2.1 k.size, Nat.lt_of_lt_of_le h.ne.2.2 k.size⟩
theorem SA.next {w w' : World} {sb kb : Nat} {st : List (Option ByteArray)} (h : SA w sb kb st) (k : Below w.heap.size w w') : SA w' sb kb st := h.kx (Kx.of [] k) (by simp) (by simp)
theorem cell_other {w : World} {a b : Addr} {u : Value} (h : a.block ≠ b.block ∨ a.off ≠ b.off) : (w.setCell a u).cell? b = w.cell? b := by
  first
  | exact World.cell?_setCell_other _ _ _ _ (fun e => by subst e; rcases h with h | h <;> exact h rfl)
  | exact World.cell?_setCell_other _ _ _ _ (fun e => by cases e; rcases h with h | h <;> exact h rfl)
theorem fz_set {w : World} {a b : Addr} {u : Value} : (w.setCell a u).frozen? b = w.frozen? b := World.frozen?_setCell ..
theorem SA.set {w : World} {sb kb : Nat} {st : List (Option ByteArray)} (h : SA w sb kb st) {j : Nat} (hj : j < st.length) (s : ByteArray) : SA ((w.setCell ⟨sb, j, none⟩ (.string s)).setCell ⟨kb, j, none⟩ (.bool true)) sb kb (st.set j (some s)) := by
  obtain ⟨o, ho⟩ : ∃ o, st[j]? = some o := ⟨_, List.getElem?_eq_getElem hj⟩
  have n1 := h.ne.1
  refine ⟨fun i o' hi => ?_, fun i => ⟨?_, ?_⟩, n1, by simpa using h.ne.2.1, by simpa using h.ne.2.2⟩
  · rw [List.getElem?_set] at hi
    by_cases e : j = i
    · subst e
      rw [if_pos rfl, if_pos hj] at hi
      injection hi with hi
      subst hi
      exact ⟨(cell_other (Or.inl (fun e => n1 e.symm))).trans (World.cell?_setCell_same _ _ _ (h.cs j o ho).1), World.cell?_setCell_same _ _ _ ((cell_other (Or.inl n1)).trans (h.cs j o ho).2)⟩
    · rw [if_neg e] at hi
      exact ⟨(cell_other (Or.inl (fun e => n1 e.symm))).trans ((cell_other (Or.inr e)).trans (h.cs i o' hi).1), (cell_other (Or.inr e)).trans ((cell_other (Or.inl n1)).trans (h.cs i o' hi).2)⟩
  · rw [fz_set, fz_set]; exact (h.fz i).1
  · rw [fz_set, fz_set]; exact (h.fz i).2
/-- New rows of n noughts. -/
theorem info_tBool : (Tryd.prog.info? 4).map (fun i => (i.zero, i.size, i.bytes)) = some (some (.bool false), 1, 1) := by kernel_rfl
theorem make_strs (w : World) (n : Nat) (h : n ≤ 100000) : ∃ o, (Instr.makeSlice 32 (.int .i64 (n : Nat)) (.int .i64 (n : Nat))).run Tryd.prog w = .ok (.slice (some ⟨w.heap.size, 0, none⟩) n n) (w.alloc (.cells o 9)) ∧ o.size = n ∧ ∀ j, j < n → o[j]? = some (.string ⟨#[]⟩) := by
  obtain ⟨i0, hi, hz0, hz1, hz2⟩ := info_parts info_tStr
  have hr := run_make (P := Tryd.prog) w 32 9 i0 _ Tryd.underlying32 hi hz0 .i64 .i64 n n (by omega) (Int.le_refl _) (by rw [hz2]; omega) (by omega)
  rw [hz1, Int.toNat_natCast] at hr
  refine ⟨_, hr, ?_, fun j hj => ?_⟩
  · simp [size_madeCells]
  · show (madeCells #[.string ⟨#[]⟩] (n * 1))[j]? = _
    rw [← Array.getElem?_toList, toList_madeCells_one, List.getElem?_replicate, if_pos (by omega)]
theorem make_bools (w : World) (n : Nat) (h : n ≤ 100000) : ∃ o, (Instr.makeSlice 91 (.int .i64 (n : Nat)) (.int .i64 (n : Nat))).run Tryd.prog w = .ok (.slice (some ⟨w.heap.size, 0, none⟩) n n) (w.alloc (.cells o 4)) ∧ o.size = n ∧ ∀ j, j < n → o[j]? = some (.bool false) := by
  obtain ⟨i0, hi, hz0, hz1, hz2⟩ := info_parts info_tBool
  have hr := run_make (P := Tryd.prog) w 91 4 i0 _ Tryd.underlying91 hi hz0 .i64 .i64 n n (by omega) (Int.le_refl _) (by rw [hz2]; omega) (by omega)
  rw [hz1, Int.toNat_natCast] at hr
  refine ⟨_, hr, ?_, fun j hj => ?_⟩
  · simp [size_madeCells]
  · show (madeCells #[.bool false] (n * 1))[j]? = _
    rw [← Array.getElem?_toList, toList_madeCells_one, List.getElem?_replicate, if_pos (by omega)]
/-- Two new rows. -/
theorem SA.new {w1 : World} {n : Nat} {o1 o2 : Array Value} (s1 : o1.size = n) (s2 : o2.size = n) (z1 : ∀ j, j < n → o1[j]? = some (.string ⟨#[]⟩)) (z2 : ∀ j, j < n → o2[j]? = some (.bool false)) :
    SA ((w1.alloc (.cells o1 9)).alloc (.cells o2 4)) w1.heap.size (w1.heap.size + 1) (List.replicate n none) := by
  have e : (w1.alloc (.cells o1 9)).heap.size = w1.heap.size + 1 := by simp
  have h1 : ((w1.alloc (.cells o1 9)).alloc (.cells o2 4)).heap[w1.heap.size]? = some (.cells o1 9 (0, 0)) := by
    rw [(allocB (w1.alloc (.cells o1 9)) (.cells o2 4)).block w1.heap.size (by rw [e]; omega)]
    exact heap_alloc_new w1 _
  have h2 : ((w1.alloc (.cells o1 9)).alloc (.cells o2 4)).heap[w1.heap.size + 1]? = some (.cells o2 4 (0, 0)) := by
    rw [← e]
    exact heap_alloc_new (w1.alloc (.cells o1 9)) _
  refine ⟨fun j o hj => ?_, fun j => ⟨by simp only [World.frozen?, h1]; simp, by simp only [World.frozen?, h2]; simp⟩, by omega, by simp; omega, by simp⟩
  rw [List.getElem?_replicate] at hj
  split at hj
  · rename_i q
    injection hj with hj
    subst hj
    exact ⟨by simp only [World.cell?, h1]; exact z1 j q, by simp only [World.cell?, h2]; exact z2 j q⟩
  · cases hj

end Go.Proofs.YtjkbiglnpoeddaaDoor.Vf
