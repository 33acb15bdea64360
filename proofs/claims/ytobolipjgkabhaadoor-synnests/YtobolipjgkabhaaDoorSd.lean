/- A node's box in memory; the walks over the parser's name, kind and lit. -/
import Derived.Test.YtobolipjgkabhaaDoorSc
import Derived.BigQuiet
import Derived.Deep.RegionHeld3
namespace Go.Proofs.YtobolipjgkabhaaDoor
open Go.RowKit
set_option linter.unusedVariables false
set_option linter.unusedSimpArgs false

/-- A node's six cells, in a box. -/
structure B6 (w : World) (b : Nat) (v0 v1 v2 v3 v4 v5 : Value) : Prop where
  c0 : w.cell? ⟨b, 0, none⟩ = some v0
  c1 : w.cell? ⟨b, 1, none⟩ = some v1
  c2 : w.cell? ⟨b, 2, none⟩ = some v2
  c3 : w.cell? ⟨b, 3, none⟩ = some v3
  c4 : w.cell? ⟨b, 4, none⟩ = some v4
  c5 : w.cell? ⟨b, 5, none⟩ = some v5
  fz : ∀ o, w.frozen? ⟨b, o, none⟩ = false
theorem B6.lt {w : World} {b : Nat} {v0 v1 v2 v3 v4 v5 : Value} (h : B6 w b v0 v1 v2 v3 v4 v5) : b < w.heap.size := World.block_lt_of_cell? _ _ h.c0
theorem B6.new (w : World) (t : TypeId) (v0 v1 v2 v3 v4 v5 : Value) : B6 (w.alloc (.cells #[v0, v1, v2, v3, v4, v5] t)) w.heap.size v0 v1 v2 v3 v4 v5 := ⟨by simp, by simp, by simp, by simp, by simp, by simp, fun o => by simp⟩
theorem B6.keep {w w' : World} {b : Nat} {v0 v1 v2 v3 v4 v5 : Value} (h : B6 w b v0 v1 v2 v3 v4 v5) (e : w'.heap[b]? = w.heap[b]?) : B6 w' b v0 v1 v2 v3 v4 v5 := by
  have f : ∀ i, w'.cell? ⟨b, i, none⟩ = w.cell? ⟨b, i, none⟩ := fun i => World.cell?_of_block (a := ⟨b, i, none⟩) e
  exact ⟨by rw [f]; exact h.c0, by rw [f]; exact h.c1, by rw [f]; exact h.c2, by rw [f]; exact h.c3, by rw [f]; exact h.c4, by rw [f]; exact h.c5, fun o => by rw [World.frozen?_of_block (a := ⟨b, o, none⟩) e]; exact h.fz o⟩
theorem B6.next {w w' : World} {b : Nat} {v0 v1 v2 v3 v4 v5 : Value} (h : B6 w b v0 v1 v2 v3 v4 v5) (q : Below w.heap.size w w') : B6 w' b v0 v1 v2 v3 v4 v5 := h.keep (q.block b h.lt)
theorem B6.gr {w w' : World} {b p : Nat} {v0 v1 v2 v3 v4 v5 : Value} (h : B6 w b v0 v1 v2 v3 v4 v5) (q : Gr w w' p) (ne : b ≠ p) : B6 w' b v0 v1 v2 v3 v4 v5 := h.keep (q.block b h.lt (fun e => ne (by injection e)))
theorem B6.grown {w w' : World} {b : Nat} {row : Option Nat} {v0 v1 v2 v3 v4 v5 : Value} (h : B6 w b v0 v1 v2 v3 v4 v5) (q : w.grownBy w' row) (ne : some b ≠ row) : B6 w' b v0 v1 v2 v3 v4 v5 := h.keep (q.block b h.lt ne)
theorem B6.put {w : World} {b q i : Nat} {v0 v1 v2 v3 v4 v5 : Value} (h : B6 w b v0 v1 v2 v3 v4 v5) (ne : b ≠ q) (u : Value) : B6 (w.setCell ⟨q, i, none⟩ u) b v0 v1 v2 v3 v4 v5 := h.keep (Below.heap_setCell w ⟨q, i, none⟩ u b ne)
theorem B6.set0 {w : World} {b : Nat} {v0 v1 v2 v3 v4 v5 : Value} (h : B6 w b v0 v1 v2 v3 v4 v5) (u : Value) : B6 (w.setCell ⟨b, 0, none⟩ u) b u v1 v2 v3 v4 v5 := ⟨cell_eq h.c0, (cell_ne (by omega)).trans h.c1, (cell_ne (by omega)).trans h.c2, (cell_ne (by omega)).trans h.c3, (cell_ne (by omega)).trans h.c4, (cell_ne (by omega)).trans h.c5, fun o => by simpa using h.fz o⟩
theorem B6.set1 {w : World} {b : Nat} {v0 v1 v2 v3 v4 v5 : Value} (h : B6 w b v0 v1 v2 v3 v4 v5) (u : Value) : B6 (w.setCell ⟨b, 1, none⟩ u) b v0 u v2 v3 v4 v5 := ⟨(cell_ne (by omega)).trans h.c0, cell_eq h.c1, (cell_ne (by omega)).trans h.c2, (cell_ne (by omega)).trans h.c3, (cell_ne (by omega)).trans h.c4, (cell_ne (by omega)).trans h.c5, fun o => by simpa using h.fz o⟩
theorem B6.set2 {w : World} {b : Nat} {v0 v1 v2 v3 v4 v5 : Value} (h : B6 w b v0 v1 v2 v3 v4 v5) (u : Value) : B6 (w.setCell ⟨b, 2, none⟩ u) b v0 v1 u v3 v4 v5 := ⟨(cell_ne (by omega)).trans h.c0, (cell_ne (by omega)).trans h.c1, cell_eq h.c2, (cell_ne (by omega)).trans h.c3, (cell_ne (by omega)).trans h.c4, (cell_ne (by omega)).trans h.c5, fun o => by simpa using h.fz o⟩
theorem B6.set3 {w : World} {b : Nat} {v0 v1 v2 v3 v4 v5 : Value} (h : B6 w b v0 v1 v2 v3 v4 v5) (u : Value) : B6 (w.setCell ⟨b, 3, none⟩ u) b v0 v1 v2 u v4 v5 := ⟨(cell_ne (by omega)).trans h.c0, (cell_ne (by omega)).trans h.c1, (cell_ne (by omega)).trans h.c2, cell_eq h.c3, (cell_ne (by omega)).trans h.c4, (cell_ne (by omega)).trans h.c5, fun o => by simpa using h.fz o⟩
theorem B6.set4 {w : World} {b : Nat} {v0 v1 v2 v3 v4 v5 : Value} (h : B6 w b v0 v1 v2 v3 v4 v5) (u : Value) : B6 (w.setCell ⟨b, 4, none⟩ u) b v0 v1 v2 v3 u v5 := ⟨(cell_ne (by omega)).trans h.c0, (cell_ne (by omega)).trans h.c1, (cell_ne (by omega)).trans h.c2, (cell_ne (by omega)).trans h.c3, cell_eq h.c4, (cell_ne (by omega)).trans h.c5, fun o => by simpa using h.fz o⟩
theorem B6.set5 {w : World} {b : Nat} {v0 v1 v2 v3 v4 v5 : Value} (h : B6 w b v0 v1 v2 v3 v4 v5) (u : Value) : B6 (w.setCell ⟨b, 5, none⟩ u) b v0 v1 v2 v3 v4 u := ⟨(cell_ne (by omega)).trans h.c0, (cell_ne (by omega)).trans h.c1, (cell_ne (by omega)).trans h.c2, (cell_ne (by omega)).trans h.c3, (cell_ne (by omega)).trans h.c4, cell_eq h.c5, fun o => by simpa using h.fz o⟩
theorem B6.sets {w : World} {b : Nat} {z0 z1 z2 z3 z4 z5 : Value} (h : B6 w b z0 z1 z2 z3 z4 z5) (v0 v1 v2 v3 v4 v5 : Value) : B6 ((((((w.setCell ⟨b, 0, none⟩ v0).setCell ⟨b, 1, none⟩ v1).setCell ⟨b, 2, none⟩ v2).setCell ⟨b, 3, none⟩ v3).setCell ⟨b, 4, none⟩ v4).setCell ⟨b, 5, none⟩ v5) b v0 v1 v2 v3 v4 v5 := (((((h.set0 v0).set1 v1).set2 v2).set3 v3).set4 v4).set5 v5
theorem Ps.put6 {w : World} {p b c : Nat} {ws : List Wo} {k : Nat} {o : Option Nat} (h : Ps w p b c ws k o) {q : Nat} (h1 : p ≠ q) (h2 : b ≠ q) (v0 v1 v2 v3 v4 v5 : Value) : Ps ((((((w.setCell ⟨q, 0, none⟩ v0).setCell ⟨q, 1, none⟩ v1).setCell ⟨q, 2, none⟩ v2).setCell ⟨q, 3, none⟩ v3).setCell ⟨q, 4, none⟩ v4).setCell ⟨q, 5, none⟩ v5) p b c ws k o :=
  (((((h.put h1 h2 v0).put h1 h2 v1).put h1 h2 v2).put h1 h2 v3).put h1 h2 v4).put h1 h2 v5
theorem Gr.put6 {a b : World} {p q : Nat} (h : Gr a b p) (hq : a.heap.size ≤ q) (v0 v1 v2 v3 v4 v5 : Value) : Gr a ((((((b.setCell ⟨q, 0, none⟩ v0).setCell ⟨q, 1, none⟩ v1).setCell ⟨q, 2, none⟩ v2).setCell ⟨q, 3, none⟩ v3).setCell ⟨q, 4, none⟩ v4).setCell ⟨q, 5, none⟩ v5) p :=
  (((((h.put hq v0).put hq v1).put hq v2).put hq v3).put hq v4).put hq v5
theorem B6.put6 {w : World} {b q : Nat} {z0 z1 z2 z3 z4 z5 : Value} (h : B6 w b z0 z1 z2 z3 z4 z5) (ne : b ≠ q) (v0 v1 v2 v3 v4 v5 : Value) : B6 ((((((w.setCell ⟨q, 0, none⟩ v0).setCell ⟨q, 1, none⟩ v1).setCell ⟨q, 2, none⟩ v2).setCell ⟨q, 3, none⟩ v3).setCell ⟨q, 4, none⟩ v4).setCell ⟨q, 5, none⟩ v5) b z0 z1 z2 z3 z4 z5 := (((((h.put ne v0).put ne v1).put ne v2).put ne v3).put ne v4).put ne v5
theorem size6 (w : World) (q : Nat) (v0 v1 v2 v3 v4 v5 : Value) : ((((((w.setCell ⟨q, 0, none⟩ v0).setCell ⟨q, 1, none⟩ v1).setCell ⟨q, 2, none⟩ v2).setCell ⟨q, 3, none⟩ v3).setCell ⟨q, 4, none⟩ v4).setCell ⟨q, 5, none⟩ v5).heap.size = w.heap.size := by simp
theorem heap6 (w : World) (q : Nat) (v0 v1 v2 v3 v4 v5 : Value) (k : Nat) (h : k ≠ q) : ((((((w.setCell ⟨q, 0, none⟩ v0).setCell ⟨q, 1, none⟩ v1).setCell ⟨q, 2, none⟩ v2).setCell ⟨q, 3, none⟩ v3).setCell ⟨q, 4, none⟩ v4).setCell ⟨q, 5, none⟩ v5).heap[k]? = w.heap[k]? := by
  rw [Below.heap_setCell _ ⟨q, 5, none⟩ _ _ h, Below.heap_setCell _ ⟨q, 4, none⟩ _ _ h, Below.heap_setCell _ ⟨q, 3, none⟩ _ _ h, Below.heap_setCell _ ⟨q, 2, none⟩ _ _ h, Below.heap_setCell _ ⟨q, 1, none⟩ _ _ h, Below.heap_setCell _ ⟨q, 0, none⟩ _ _ h]
theorem Nd.put6 {w : World} {v : Value} {ts : List Tr} {S : Nat → Prop} (h : Nd w S v ts) {q : Nat} (hq : ¬ S q) (v0 v1 v2 v3 v4 v5 : Value) : Nd ((((((w.setCell ⟨q, 0, none⟩ v0).setCell ⟨q, 1, none⟩ v1).setCell ⟨q, 2, none⟩ v2).setCell ⟨q, 3, none⟩ v3).setCell ⟨q, 4, none⟩ v4).setCell ⟨q, 5, none⟩ v5) S v ts :=
  h.keep fun g s l => ⟨s, heap6 w q v0 v1 v2 v3 v4 v5 g (fun e => hq (by have e : g = q := e; rw [← e]; exact s))⟩
theorem pass_any {w : World} {p b c : Nat} {ws : List Wo} {k : Nat} {o : Option Nat} (h : Ps w p b c ws k o) :
    Calls Tryd.prog 48 #[.pointer (some ⟨p, 0, none⟩)] w fun e w' => e = .returned (.tuple #[]) ∧ Ps w' p b c ws k (passO o (ws.drop k)) ∧ Gr w w' p := by
  cases o with
  | none => exact pass_no h
  | some a => exact (pass_yes h).mono fun e w' ⟨q1, q2⟩ => by subst q2; exact ⟨q1, h, Gr.refl _ _⟩
theorem eqL (a : ByteArray) (l : List UInt8) : (a.toList == l) = eqB a ⟨l.toArray⟩ := by rw [ByteArray.toList_eq]; rfl
/-- What a part of the parser answers, in memory. -/
def Rp (w w' : World) (p b c : Nat) (ws : List Wo) (k : Nat) (e : Ending) (r : Rs) : Prop := Gr w w' p ∧ ∃ k' v, k ≤ k' ∧ (r.t.isSome = true → k < k') ∧ r.l = ws.drop k' ∧ Ps w' p b c ws k' r.o ∧ e = .returned (.tuple #[v, .bool r.t.isSome]) ∧ ∃ t, Nv w' (fun g => w.heap.size ≤ g) v t ∧ ∀ t', r.t = some t' → t = t'
set_option maxRecDepth 100000 in
set_option maxHeartbeats 1000000 in
theorem pname_any {w : World} {p b c : Nat} {ws : List Wo} {k : Nat} {o : Option Nat} (h : Ps w p b c ws k o) :
    Calls Tryd.prog 44 #[.pointer (some ⟨p, 0, none⟩)] w fun e w' => Gr w w' p ∧ if kw (ws.drop k) = 1 then e = .returned (.tuple #[.string (tw (ws.drop k)), .bool true]) ∧ Ps w' p b c ws (k + 1) o else e = .returned (.tuple #[.string ⟨#[]⟩, .bool false]) ∧ Ps w' p b c ws k o := by
  obtain ⟨x, cu⟩ := h.cur
  have HP := hid h
  have HG := hid (Gr.refl w p)
  have XA := hid cu.at_
  have PN := h.ne
  have c0 := h.c0
  have c1 := h.c1
  have d0 := cu.d0
  have d1 := cu.d1
  have d2 := cu.d2
  have d3 := cu.d3
  have l1 : (k : Int) < (ws.length : Int) := by have := h.lt; omega
  have l2 : ws.length ≤ 9000 := h.len
  have e1 := cu.dr
  rw [e1]
  show Calls _ _ _ _ fun e w' => Gr w w' p ∧ if x.k = 1 then e = .returned (.tuple #[.string x.t, .bool true]) ∧ Ps w' p b c ws (k + 1) o else e = .returned (.tuple #[.string ⟨#[]⟩, .bool false]) ∧ Ps w' p b c ws k o
  have HM := hid (fun q => h.more cu.at_ q)
  clear h cu e1
  obtain ⟨xk, xt, xn, xa⟩ := x
  simp only at d0 d1 d2 d3 XA HM ⊢
  go_enter Tryd.func44, Tryd.ntmps44
  go_upto_region 1 with fail
  refine wp_region_held_drew (S := (fun W => W.cell? ⟨p, 0, none⟩ = some (.slice (some ⟨b, 0, none⟩) ws.length c) ∧ W.cell? ⟨p, 1, none⟩ = some (.int .i64 (k : Nat)) ∧ W.cell? ⟨b, k * 4, none⟩ = some (.int .i64 (xk : Nat)) ∧ W.cell? ⟨b, k * 4 + 1, none⟩ = some (.string xt) ∧ W.cell? ⟨b, k * 4 + 2, none⟩ = some (.int .i64 (xn : Nat)) ∧ W.cell? ⟨b, k * 4 + 3, none⟩ = some (.int .i64 (xa : Nat)))) (by kernel_rfl) ⟨c0, c1, d0, d1, d2, d3⟩ (fun hHeld => ?_)
  have HP0 := hid (show Ps w.drew p b c ws k o from HP.out.next (Below.refl _ _).drew)
  have HG0 := hid (show Gr w w.drew p from HG.out.drew)
  clear HP HG
  generalize w.drew = wz at *
  refine take2 rfl (i := 0) (v := .pointer (some ⟨p, 0, none⟩)) (d := 5) rfl rfl (by kernel_rfl) (by kernel_rfl) (by kernel_rfl) (fun _ _ _ h => h) (Or.inl ⟨by rfl, ?_⟩) hHeld ?_
  · (intro W hW; (try dsimp only at hW); go_simp)
  try simp only [Act.put, List.setIfInBounds_toArray, List.set_cons_zero, List.set_cons_succ]
  refine take2 rfl (i := 1) (v := .pointer (some ⟨p, 0, none⟩)) (d := 6) rfl rfl (by kernel_rfl) (by kernel_rfl) (by kernel_rfl) (fun _ _ _ h => h) (Or.inl ⟨by rfl, ?_⟩) hHeld ?_
  · (intro W hW; (try dsimp only at hW); go_simp)
  try simp only [Act.put, List.setIfInBounds_toArray, List.set_cons_zero, List.set_cons_succ]
  refine take2 rfl (i := 2) (v := .pointer (some ⟨p, 0, none⟩)) (d := 7) rfl rfl (by kernel_rfl) (by kernel_rfl) (by kernel_rfl) (fun _ _ _ h => h) (Or.inl ⟨by rfl, ?_⟩) hHeld ?_
  · (intro W hW; (try dsimp only at hW); go_simp)
  try simp only [Act.put, List.setIfInBounds_toArray, List.set_cons_zero, List.set_cons_succ]
  refine take2 rfl (i := 3) (v := .slice (some ⟨b, 0, none⟩) ws.length c) (d := 8) rfl rfl (by kernel_rfl) (by kernel_rfl) (by kernel_rfl) (fun _ _ _ h => h) (Or.inl ⟨by rfl, ?_⟩) hHeld ?_
  · (intro W hW; (try dsimp only at hW); go_simp)
  try simp only [Act.put, List.setIfInBounds_toArray, List.set_cons_zero, List.set_cons_succ]
  refine take2 rfl (i := 4) (v := .pointer (some ⟨p, 0, none⟩)) (d := 9) rfl rfl (by kernel_rfl) (by kernel_rfl) (by kernel_rfl) (fun _ _ _ h => h) (Or.inl ⟨by rfl, ?_⟩) hHeld ?_
  · (intro W hW; (try dsimp only at hW); go_simp)
  try simp only [Act.put, List.setIfInBounds_toArray, List.set_cons_zero, List.set_cons_succ]
  refine take2 rfl (i := 5) (v := .pointer (some ⟨p, 0, none⟩)) (d := 10) rfl rfl (by kernel_rfl) (by kernel_rfl) (by kernel_rfl) (fun _ _ _ h => h) (Or.inl ⟨by rfl, ?_⟩) hHeld ?_
  · (intro W hW; (try dsimp only at hW); go_simp)
  try simp only [Act.put, List.setIfInBounds_toArray, List.set_cons_zero, List.set_cons_succ]
  refine take2 rfl (i := 6) (v := .pointer (some ⟨p, 1, none⟩)) (d := 11) rfl rfl (by kernel_rfl) (by kernel_rfl) (by kernel_rfl) (fun _ _ _ h => h) (Or.inl ⟨by rfl, ?_⟩) hHeld ?_
  · (intro W hW; (try dsimp only at hW); go_simp)
  try simp only [Act.put, List.setIfInBounds_toArray, List.set_cons_zero, List.set_cons_succ]
  refine take2 rfl (i := 7) (v := .int .i64 (k : Nat)) (d := 12) rfl rfl (by kernel_rfl) (by kernel_rfl) (by kernel_rfl) (fun _ _ _ h => h) (Or.inl ⟨by rfl, ?_⟩) hHeld ?_
  · (intro W hW; (try dsimp only at hW); go_simp)
  try simp only [Act.put, List.setIfInBounds_toArray, List.set_cons_zero, List.set_cons_succ]
  refine take2 rfl (i := 8) (v := .pointer (some ⟨b, k * 4, none⟩)) (d := 13) rfl rfl (by kernel_rfl) (by kernel_rfl) (by kernel_rfl) (fun _ _ _ h => h) (Or.inl ⟨by rfl, ?_⟩) hHeld ?_
  · (intro W hW; (try dsimp only at hW); go_simp)
  try simp only [Act.put, List.setIfInBounds_toArray, List.set_cons_zero, List.set_cons_succ]
  refine take2 rfl (i := 9) (v := .agg #[.int .i64 (xk : Nat), .string xt, .int .i64 (xn : Nat), .int .i64 (xa : Nat)]) (d := 14) rfl rfl (by kernel_rfl) (by kernel_rfl) (by kernel_rfl) (fun _ _ _ h => h) (Or.inl ⟨by rfl, ?_⟩) hHeld ?_
  · (intro W hW; (try dsimp only at hW); go_simp)
  try simp only [Act.put, List.setIfInBounds_toArray, List.set_cons_zero, List.set_cons_succ]
  refine wpAnyH_ready (rs := [10]) (by kernel_rfl) (by simp) ?_
  refine cons2 rfl rfl (fun K9 hK => ?_)
  go_simp
  have BL := hid ((Below.refl wz.heap.size wz).alloc (Nat.le_refl _) (.cells #[.int .i64 0, .string ⟨#[]⟩, .int .i64 0, .int .i64 0] 41))
  refine hK.out _ _ (by have H := HP0.out.next BL.out; obtain ⟨q0, q1, q2, q3, q4, q5⟩ := hHeld; exact ⟨H.c0, H.c1, H.w0 _ _ XA.out, H.w1 _ _ XA.out, H.w2 _ _ XA.out, H.w3 _ _ XA.out⟩) (fun hX => ?_)
  clear hK K9 hHeld
  have hHeld := hX
  clear hX
  try simp only [Act.put, List.setIfInBounds_toArray, List.set_cons_zero, List.set_cons_succ]
  refine wpAnyH_ready (rs := [11]) (by kernel_rfl) (by simp) ?_
  refine cons2 rfl rfl (fun K9 hK => ?_)
  go_simp
  have HX := hid (X4.new wz 41 (.int .i64 (xk : Nat)) (.string xt) (.int .i64 (xn : Nat)) (.int .i64 (xa : Nat)))
  have HP := hid (HP0.out.next HX.out.bl)
  have HG := hid (HG0.out.below HX.out.bl)
  refine hK.out _ _ (⟨HP.out.c0, HP.out.c1, HP.out.w0 _ _ XA.out, HP.out.w1 _ _ XA.out, HP.out.w2 _ _ XA.out, HP.out.w3 _ _ XA.out⟩) (fun hX => ?_)
  clear hK K9 hHeld
  have hHeld := hX
  clear hX
  try simp only [Act.put, List.setIfInBounds_toArray, List.set_cons_zero, List.set_cons_succ]
  clear hHeld BL HG0
  refine wpAnyH_done (by kernel_rfl) ?_ _
  generalize World.alloc wz _ = w2 at *
  have x0 := HX.out.c0
  have x1 := HX.out.c1
  have x2 := HX.out.c2
  have x3 := HX.out.c3
  have hg0 : wz.heap.size < w2.heap.size := HX.out.lt
  have hgp : wz.heap.size ≠ p := by have := HP0.out.pl; omega
  generalize wz.heap.size = g at *

  by_cases q : xk = 1
  · subst q
    have pz := HP.out.fz 1
    have p1 := HP.out.c1
    have kk : (k : Int) ≤ 9000 := by omega
    have HP' := hid (HP.out.step (HM.out (Or.inl (by decide))))
    have HG' := hid (HG.out.set (i := 1) (.int .i64 ((k : Int) + 1)))
    have y1 : (w2.setCell ⟨p, 1, none⟩ (.int .i64 ((k : Int) + 1))).cell? ⟨g, 1, none⟩ = some (.string xt) := (cell_ne (by omega)).trans x1
    go_wp2_with fail
    go_returns
    exact ⟨HG'.out, rfl, HP'.out⟩
  · have q' : (xk : Int) ≠ 1 := by omega
    go_wp2_with fail
    go_returns
    first | exact ⟨HG.out, rfl, HP.out⟩ | exact ⟨HG.out, by rw [if_neg q]; exact ⟨rfl, HP.out⟩⟩
theorem Rp.yes {w W : World} {p b c : Nat} {ws : List Wo} {r : Rs} {t : Tr} {k k' : Nat} {o : Option Nat} {v : Value} (hk : k < k') (hr : r = ⟨some t, ws.drop k', o⟩) (hg : Gr w W p) (hp : Ps W p b c ws k' o) (hv : Nv W (fun g => w.heap.size ≤ g) v t) : Rp w W p b c ws k (.returned (.tuple #[v, .bool true])) r := by
  subst hr
  exact ⟨hg, k', v, Nat.le_of_lt hk, fun _ => hk, rfl, hp, rfl, t, hv, fun t' e => by injection e⟩
theorem Rp.no {w W : World} {p b c : Nat} {ws : List Wo} {r : Rs} {t : Tr} {k k' : Nat} {o : Option Nat} {v : Value} (hk : k ≤ k') (hr : r = ⟨none, ws.drop k', o⟩) (hg : Gr w W p) (hp : Ps W p b c ws k' o) (hv : Nv W (fun g => w.heap.size ≤ g) v t) : Rp w W p b c ws k (.returned (.tuple #[v, .bool false])) r := by
  subst hr
  exact ⟨hg, k', v, hk, fun e => by (cases e), rfl, hp, rfl, t, hv, fun t' e => by cases e⟩
theorem Nv.leaf {W : World} {S : Nat → Prop} (op name : ByteArray) (kind : Nat) (n : Int) (a : Nat) : Nv W S (.agg #[.string op, .string name, .int .i64 (kind : Nat), .int .i64 n, .int .i64 (a : Nat), .slice none 0 0]) (.nd op name kind n a []) := ⟨_, rfl, .nil⟩
set_option maxRecDepth 100000 in
set_option maxHeartbeats 2000000 in
theorem plit_any {w : World} {p b c : Nat} {ws : List Wo} {k : Nat} {o : Option Nat} (h : Ps w p b c ws k o) :
    Calls Tryd.prog 60 #[.pointer (some ⟨p, 0, none⟩)] w fun e w' => Rp w w' p b c ws k e (litR (ws.drop k) o) := by
  obtain ⟨x, cu⟩ := h.cur
  have HP := hid h
  have HG := hid (Gr.refl w p)
  have XA := hid cu.at_
  have PN := h.ne
  have c0 := h.c0
  have c1 := h.c1
  have d0 := cu.d0
  have d1 := cu.d1
  have d2 := cu.d2
  have d3 := cu.d3
  have l1 : (k : Int) < (ws.length : Int) := by have := h.lt; omega
  have l2 : ws.length ≤ 9000 := h.len
  have e1 := cu.dr
  
  have PC := hid h.c0
  have HM := hid (fun q => h.more cu.at_ q)
  have E1 := hid e1
  have CU := hid cu
  clear h cu e1
  obtain ⟨xk, xt, xn, xa⟩ := x
  simp only at d0 d1 d2 d3 XA HM
  go_enter Tryd.func60, Tryd.ntmps60
  go_upto_region 1 with fail
  have HB := hid (B6.new w 26 (.string ⟨#[]⟩) (.string ⟨#[]⟩) (.int .i64 0) (.int .i64 0) (.int .i64 0) (.slice none 0 0))
  have HS0 : Hid (Below w.heap.size w (w.alloc (.cells #[.string ⟨#[]⟩, .string ⟨#[]⟩, .int .i64 0, .int .i64 0, .int .i64 0, .slice none 0 0] 26))) := (Below.refl _ _).alloc (Nat.le_refl _) _
  replace HP := hid (HP.out.next HS0.out)
  replace HG := hid (HG.out.below HS0.out)
  replace c0 := HP.out.c0
  replace c1 := HP.out.c1
  replace d0 := HP.out.w0 _ _ XA.out
  replace d1 := HP.out.w1 _ _ XA.out
  replace d2 := HP.out.w2 _ _ XA.out
  replace d3 := HP.out.w3 _ _ XA.out
  have r1 : w.heap.size < (w.alloc (.cells #[.string ⟨#[]⟩, .string ⟨#[]⟩, .int .i64 0, .int .i64 0, .int .i64 0, .slice none 0 0] 26)).heap.size := HB.out.lt
  have rp : p < w.heap.size := World.block_lt_of_cell? _ _ PC.out
  have rb : b < w.heap.size := World.block_lt_of_cell? _ _ CU.out.d0
  generalize hwa : w.alloc (.cells #[.string ⟨#[]⟩, .string ⟨#[]⟩, .int .i64 0, .int .i64 0, .int .i64 0, .slice none 0 0] 26) = wa at *
  clear hwa
  refine wp_region_held_drew (S := (fun W => W.cell? ⟨p, 0, none⟩ = some (.slice (some ⟨b, 0, none⟩) ws.length c) ∧ W.cell? ⟨p, 1, none⟩ = some (.int .i64 (k : Nat)) ∧ W.cell? ⟨b, k * 4, none⟩ = some (.int .i64 (xk : Nat)) ∧ W.cell? ⟨b, k * 4 + 1, none⟩ = some (.string xt) ∧ W.cell? ⟨b, k * 4 + 2, none⟩ = some (.int .i64 (xn : Nat)) ∧ W.cell? ⟨b, k * 4 + 3, none⟩ = some (.int .i64 (xa : Nat)))) (by kernel_rfl) ⟨c0, c1, d0, d1, d2, d3⟩ (fun hHeld => ?_)
  have HP0 := hid (show Ps wa.drew p b c ws k o from HP.out.next (Below.refl _ _).drew)
  have HG0 := hid (show Gr w wa.drew p from HG.out.drew)
  clear HP HG
  have HBz := hid (HB.out.next (Below.refl wa.heap.size wa).drew)
  clear HB
  generalize wa.drew = wz at *
  refine take2 rfl (i := 0) (v := .pointer (some ⟨p, 0, none⟩)) (d := 6) rfl rfl (by kernel_rfl) (by kernel_rfl) (by kernel_rfl) (fun _ _ _ h => h) (Or.inl ⟨by rfl, ?_⟩) hHeld ?_
  · (intro W hW; (try dsimp only at hW); go_simp)
  try simp only [Act.put, List.setIfInBounds_toArray, List.set_cons_zero, List.set_cons_succ]
  refine take2 rfl (i := 1) (v := .pointer (some ⟨p, 0, none⟩)) (d := 7) rfl rfl (by kernel_rfl) (by kernel_rfl) (by kernel_rfl) (fun _ _ _ h => h) (Or.inl ⟨by rfl, ?_⟩) hHeld ?_
  · (intro W hW; (try dsimp only at hW); go_simp)
  try simp only [Act.put, List.setIfInBounds_toArray, List.set_cons_zero, List.set_cons_succ]
  refine take2 rfl (i := 2) (v := .pointer (some ⟨p, 0, none⟩)) (d := 8) rfl rfl (by kernel_rfl) (by kernel_rfl) (by kernel_rfl) (fun _ _ _ h => h) (Or.inl ⟨by rfl, ?_⟩) hHeld ?_
  · (intro W hW; (try dsimp only at hW); go_simp)
  try simp only [Act.put, List.setIfInBounds_toArray, List.set_cons_zero, List.set_cons_succ]
  refine take2 rfl (i := 3) (v := .slice (some ⟨b, 0, none⟩) ws.length c) (d := 9) rfl rfl (by kernel_rfl) (by kernel_rfl) (by kernel_rfl) (fun _ _ _ h => h) (Or.inl ⟨by rfl, ?_⟩) hHeld ?_
  · (intro W hW; (try dsimp only at hW); go_simp)
  try simp only [Act.put, List.setIfInBounds_toArray, List.set_cons_zero, List.set_cons_succ]
  refine take2 rfl (i := 4) (v := .pointer (some ⟨p, 0, none⟩)) (d := 10) rfl rfl (by kernel_rfl) (by kernel_rfl) (by kernel_rfl) (fun _ _ _ h => h) (Or.inl ⟨by rfl, ?_⟩) hHeld ?_
  · (intro W hW; (try dsimp only at hW); go_simp)
  try simp only [Act.put, List.setIfInBounds_toArray, List.set_cons_zero, List.set_cons_succ]
  refine take2 rfl (i := 5) (v := .pointer (some ⟨p, 0, none⟩)) (d := 11) rfl rfl (by kernel_rfl) (by kernel_rfl) (by kernel_rfl) (fun _ _ _ h => h) (Or.inl ⟨by rfl, ?_⟩) hHeld ?_
  · (intro W hW; (try dsimp only at hW); go_simp)
  try simp only [Act.put, List.setIfInBounds_toArray, List.set_cons_zero, List.set_cons_succ]
  refine take2 rfl (i := 6) (v := .pointer (some ⟨p, 1, none⟩)) (d := 12) rfl rfl (by kernel_rfl) (by kernel_rfl) (by kernel_rfl) (fun _ _ _ h => h) (Or.inl ⟨by rfl, ?_⟩) hHeld ?_
  · (intro W hW; (try dsimp only at hW); go_simp)
  try simp only [Act.put, List.setIfInBounds_toArray, List.set_cons_zero, List.set_cons_succ]
  refine take2 rfl (i := 7) (v := .int .i64 (k : Nat)) (d := 13) rfl rfl (by kernel_rfl) (by kernel_rfl) (by kernel_rfl) (fun _ _ _ h => h) (Or.inl ⟨by rfl, ?_⟩) hHeld ?_
  · (intro W hW; (try dsimp only at hW); go_simp)
  try simp only [Act.put, List.setIfInBounds_toArray, List.set_cons_zero, List.set_cons_succ]
  refine take2 rfl (i := 8) (v := .pointer (some ⟨b, k * 4, none⟩)) (d := 14) rfl rfl (by kernel_rfl) (by kernel_rfl) (by kernel_rfl) (fun _ _ _ h => h) (Or.inl ⟨by rfl, ?_⟩) hHeld ?_
  · (intro W hW; (try dsimp only at hW); go_simp)
  try simp only [Act.put, List.setIfInBounds_toArray, List.set_cons_zero, List.set_cons_succ]
  refine take2 rfl (i := 9) (v := .agg #[.int .i64 (xk : Nat), .string xt, .int .i64 (xn : Nat), .int .i64 (xa : Nat)]) (d := 15) rfl rfl (by kernel_rfl) (by kernel_rfl) (by kernel_rfl) (fun _ _ _ h => h) (Or.inl ⟨by rfl, ?_⟩) hHeld ?_
  · (intro W hW; (try dsimp only at hW); go_simp)
  try simp only [Act.put, List.setIfInBounds_toArray, List.set_cons_zero, List.set_cons_succ]
  refine wpAnyH_ready (rs := [10]) (by kernel_rfl) (by simp) ?_
  refine cons2 rfl rfl (fun K9 hK => ?_)
  go_simp
  have BL := hid ((Below.refl wz.heap.size wz).alloc (Nat.le_refl _) (.cells #[.int .i64 0, .string ⟨#[]⟩, .int .i64 0, .int .i64 0] 41))
  refine hK.out _ _ (by have H := HP0.out.next BL.out; obtain ⟨q0, q1, q2, q3, q4, q5⟩ := hHeld; exact ⟨H.c0, H.c1, H.w0 _ _ XA.out, H.w1 _ _ XA.out, H.w2 _ _ XA.out, H.w3 _ _ XA.out⟩) (fun hX => ?_)
  clear hK K9 hHeld
  have hHeld := hX
  clear hX
  try simp only [Act.put, List.setIfInBounds_toArray, List.set_cons_zero, List.set_cons_succ]
  refine wpAnyH_ready (rs := [11]) (by kernel_rfl) (by simp) ?_
  refine cons2 rfl rfl (fun K9 hK => ?_)
  go_simp
  have HX := hid (X4.new wz 41 (.int .i64 (xk : Nat)) (.string xt) (.int .i64 (xn : Nat)) (.int .i64 (xa : Nat)))
  have HP := hid (HP0.out.next HX.out.bl)
  have HG := hid (HG0.out.below HX.out.bl)
  have HB := hid (HBz.out.next HX.out.bl)
  clear HBz
  refine hK.out _ _ (⟨HP.out.c0, HP.out.c1, HP.out.w0 _ _ XA.out, HP.out.w1 _ _ XA.out, HP.out.w2 _ _ XA.out, HP.out.w3 _ _ XA.out⟩) (fun hX => ?_)
  clear hK K9 hHeld
  have hHeld := hX
  clear hX
  try simp only [Act.put, List.setIfInBounds_toArray, List.set_cons_zero, List.set_cons_succ]
  clear hHeld BL HG0
  refine wpAnyH_done (by kernel_rfl) ?_ _

  generalize World.alloc wz _ = w2 at *
  have x0 := HX.out.c0
  have x1 := HX.out.c1
  have x2 := HX.out.c2
  have x3 := HX.out.c3
  have hg0 : wz.heap.size < w2.heap.size := HX.out.lt
  have hgp : wz.heap.size ≠ p := by have := HP0.out.pl; omega
  generalize wz.heap.size = g at *

  clear x2
  have kk : (k : Int) ≤ 9000 := by omega
  have x2 := HX.out.c2
  have pl2 := HP.out.pl
  have p1 := HP.out.c1
  have pz := HP.out.fz 1
  have bl2 := HP.out.bl
  by_cases q3 : xk = 3
  · subst q3
    have LR := hid (show litR (ws.drop k) o = ⟨some (lit1 2 xn xa), ws.drop (k + 1), o⟩ from by rw [E1.out]; simp [litR, litF, kw, nw, aw, lit1])
    have BN := hid (B6.new w2 26 (.string ⟨#[108, 105, 116]⟩) (.string ⟨#[]⟩) (.int .i64 2) (.int .i64 (xn : Nat)) (.int .i64 (xa : Nat)) (.slice none 0 0))
    have HBL := hid (show Below w2.heap.size w2 (w2.alloc (.cells #[.string ⟨#[108, 105, 116]⟩, .string ⟨#[]⟩, .int .i64 2, .int .i64 (xn : Nat), .int .i64 (xa : Nat), .slice none 0 0] 26)) from (Below.refl _ _).alloc (Nat.le_refl _) _)
    have HPn := hid (HP.out.next HBL.out)
    have HGn := hid (HG.out.below HBL.out)
    have HRn := hid (HB.out.next HBL.out)
    go_upto_region 16 with fail
    generalize World.alloc w2 _ = w3 at *
    generalize w2.heap.size = gn at *
    replace pz := HPn.out.fz 1
    replace p1 := HPn.out.c1
    have HPm := hid (HPn.out.step (HM.out (Or.inl (by decide))))
    have HGm := hid (HGn.out.set (i := 1) (.int .i64 ((k : Int) + 1)))
    have HRm := hid (HRn.out.put (i := 1) (q := p) (by omega) (.int .i64 ((k : Int) + 1)))
    have BNm := hid (BN.out.put (i := 1) (q := p) (by omega) (.int .i64 ((k : Int) + 1)))
    clear HPn HGn HRn BN HP HG HB HBL
    go_upto_region 17 with fail
    generalize World.setCell w3 _ _ = w5 at *
    obtain ⟨n0, n1, n2, n3, n4, n5, _⟩ := BNm.out
    obtain ⟨r0, r1, r2, r3, r4, r5, rz⟩ := HRm.out
    have BF := hid (HRm.out.sets (.string ⟨#[108, 105, 116]⟩) (.string ⟨#[]⟩) (.int .i64 2) (.int .i64 (xn : Nat)) (.int .i64 (xa : Nat)) (.slice none 0 0))
    have PF := hid (HPm.out.put6 (q := w.heap.size) (by omega) (by omega) (.string ⟨#[108, 105, 116]⟩) (.string ⟨#[]⟩) (.int .i64 2) (.int .i64 (xn : Nat)) (.int .i64 (xa : Nat)) (.slice none 0 0))
    have GF := hid (HGm.out.put6 (q := w.heap.size) (by omega) (.string ⟨#[108, 105, 116]⟩) (.string ⟨#[]⟩) (.int .i64 2) (.int .i64 (xn : Nat)) (.int .i64 (xa : Nat)) (.slice none 0 0))
    go_wp2_with fail
    generalize World.setCell _ ⟨w.heap.size, 5, none⟩ _ = w6 at *
    obtain ⟨f0, f1, f2, f3, f4, f5, _⟩ := BF.out
    exact bodyPost_ret (v := .tuple #[.agg #[.string ⟨#[108, 105, 116]⟩, .string ⟨#[]⟩, .int .i64 2, .int .i64 (xn : Nat), .int .i64 (xa : Nat), .slice none 0 0], .bool true]) (by simp [results, Tryd.results60, go_sem, f0, f1, f2, f3, f4, f5]) rfl (Rp.yes (Nat.lt_succ_self k) LR.out GF.out PF.out (Nv.leaf ⟨#[108, 105, 116]⟩ ⟨#[]⟩ 2 xn xa))
  have i3 : (xk : Int) ≠ 3 := by omega
  by_cases q4 : xk = 4
  · subst q4
    have LR := hid (show litR (ws.drop k) o = ⟨some (lit1 3 xn xa), ws.drop (k + 1), o⟩ from by rw [E1.out]; simp [litR, litF, kw, nw, aw, lit1])
    have BN := hid (B6.new w2 26 (.string ⟨#[108, 105, 116]⟩) (.string ⟨#[]⟩) (.int .i64 3) (.int .i64 (xn : Nat)) (.int .i64 (xa : Nat)) (.slice none 0 0))
    have HBL := hid (show Below w2.heap.size w2 (w2.alloc (.cells #[.string ⟨#[108, 105, 116]⟩, .string ⟨#[]⟩, .int .i64 3, .int .i64 (xn : Nat), .int .i64 (xa : Nat), .slice none 0 0] 26)) from (Below.refl _ _).alloc (Nat.le_refl _) _)
    have HPn := hid (HP.out.next HBL.out)
    have HGn := hid (HG.out.below HBL.out)
    have HRn := hid (HB.out.next HBL.out)
    go_upto_region 16 with fail
    generalize World.alloc w2 _ = w3 at *
    generalize w2.heap.size = gn at *
    replace pz := HPn.out.fz 1
    replace p1 := HPn.out.c1
    have HPm := hid (HPn.out.step (HM.out (Or.inl (by decide))))
    have HGm := hid (HGn.out.set (i := 1) (.int .i64 ((k : Int) + 1)))
    have HRm := hid (HRn.out.put (i := 1) (q := p) (by omega) (.int .i64 ((k : Int) + 1)))
    have BNm := hid (BN.out.put (i := 1) (q := p) (by omega) (.int .i64 ((k : Int) + 1)))
    clear HPn HGn HRn BN HP HG HB HBL
    go_upto_region 17 with fail
    generalize World.setCell w3 _ _ = w5 at *
    obtain ⟨n0, n1, n2, n3, n4, n5, _⟩ := BNm.out
    obtain ⟨r0, r1, r2, r3, r4, r5, rz⟩ := HRm.out
    have BF := hid (HRm.out.sets (.string ⟨#[108, 105, 116]⟩) (.string ⟨#[]⟩) (.int .i64 3) (.int .i64 (xn : Nat)) (.int .i64 (xa : Nat)) (.slice none 0 0))
    have PF := hid (HPm.out.put6 (q := w.heap.size) (by omega) (by omega) (.string ⟨#[108, 105, 116]⟩) (.string ⟨#[]⟩) (.int .i64 3) (.int .i64 (xn : Nat)) (.int .i64 (xa : Nat)) (.slice none 0 0))
    have GF := hid (HGm.out.put6 (q := w.heap.size) (by omega) (.string ⟨#[108, 105, 116]⟩) (.string ⟨#[]⟩) (.int .i64 3) (.int .i64 (xn : Nat)) (.int .i64 (xa : Nat)) (.slice none 0 0))
    go_wp2_with fail
    generalize World.setCell _ ⟨w.heap.size, 5, none⟩ _ = w6 at *
    obtain ⟨f0, f1, f2, f3, f4, f5, _⟩ := BF.out
    exact bodyPost_ret (v := .tuple #[.agg #[.string ⟨#[108, 105, 116]⟩, .string ⟨#[]⟩, .int .i64 3, .int .i64 (xn : Nat), .int .i64 (xa : Nat), .slice none 0 0], .bool true]) (by simp [results, Tryd.results60, go_sem, f0, f1, f2, f3, f4, f5]) rfl (Rp.yes (Nat.lt_succ_self k) LR.out GF.out PF.out (Nv.leaf ⟨#[108, 105, 116]⟩ ⟨#[]⟩ 3 xn xa))
  have i4 : (xk : Int) ≠ 4 := by omega
  by_cases q5 : xk = 5
  · subst q5
    have LR := hid (show litR (ws.drop k) o = ⟨some (lit1 4 xn xa), ws.drop (k + 1), o⟩ from by rw [E1.out]; simp [litR, litF, kw, nw, aw, lit1])
    have BN := hid (B6.new w2 26 (.string ⟨#[108, 105, 116]⟩) (.string ⟨#[]⟩) (.int .i64 4) (.int .i64 (xn : Nat)) (.int .i64 (xa : Nat)) (.slice none 0 0))
    have HBL := hid (show Below w2.heap.size w2 (w2.alloc (.cells #[.string ⟨#[108, 105, 116]⟩, .string ⟨#[]⟩, .int .i64 4, .int .i64 (xn : Nat), .int .i64 (xa : Nat), .slice none 0 0] 26)) from (Below.refl _ _).alloc (Nat.le_refl _) _)
    have HPn := hid (HP.out.next HBL.out)
    have HGn := hid (HG.out.below HBL.out)
    have HRn := hid (HB.out.next HBL.out)
    go_upto_region 16 with fail
    generalize World.alloc w2 _ = w3 at *
    generalize w2.heap.size = gn at *
    replace pz := HPn.out.fz 1
    replace p1 := HPn.out.c1
    have HPm := hid (HPn.out.step (HM.out (Or.inl (by decide))))
    have HGm := hid (HGn.out.set (i := 1) (.int .i64 ((k : Int) + 1)))
    have HRm := hid (HRn.out.put (i := 1) (q := p) (by omega) (.int .i64 ((k : Int) + 1)))
    have BNm := hid (BN.out.put (i := 1) (q := p) (by omega) (.int .i64 ((k : Int) + 1)))
    clear HPn HGn HRn BN HP HG HB HBL
    go_upto_region 17 with fail
    generalize World.setCell w3 _ _ = w5 at *
    obtain ⟨n0, n1, n2, n3, n4, n5, _⟩ := BNm.out
    obtain ⟨r0, r1, r2, r3, r4, r5, rz⟩ := HRm.out
    have BF := hid (HRm.out.sets (.string ⟨#[108, 105, 116]⟩) (.string ⟨#[]⟩) (.int .i64 4) (.int .i64 (xn : Nat)) (.int .i64 (xa : Nat)) (.slice none 0 0))
    have PF := hid (HPm.out.put6 (q := w.heap.size) (by omega) (by omega) (.string ⟨#[108, 105, 116]⟩) (.string ⟨#[]⟩) (.int .i64 4) (.int .i64 (xn : Nat)) (.int .i64 (xa : Nat)) (.slice none 0 0))
    have GF := hid (HGm.out.put6 (q := w.heap.size) (by omega) (.string ⟨#[108, 105, 116]⟩) (.string ⟨#[]⟩) (.int .i64 4) (.int .i64 (xn : Nat)) (.int .i64 (xa : Nat)) (.slice none 0 0))
    go_wp2_with fail
    generalize World.setCell _ ⟨w.heap.size, 5, none⟩ _ = w6 at *
    obtain ⟨f0, f1, f2, f3, f4, f5, _⟩ := BF.out
    exact bodyPost_ret (v := .tuple #[.agg #[.string ⟨#[108, 105, 116]⟩, .string ⟨#[]⟩, .int .i64 4, .int .i64 (xn : Nat), .int .i64 (xa : Nat), .slice none 0 0], .bool true]) (by simp [results, Tryd.results60, go_sem, f0, f1, f2, f3, f4, f5]) rfl (Rp.yes (Nat.lt_succ_self k) LR.out GF.out PF.out (Nv.leaf ⟨#[108, 105, 116]⟩ ⟨#[]⟩ 4 xn xa))
  have i5 : (xk : Int) ≠ 5 := by omega
  by_cases q6 : xk = 6
  · subst q6
    have LR := hid (show litR (ws.drop k) o = ⟨some (lit1 5 xn xa), ws.drop (k + 1), o⟩ from by rw [E1.out]; simp [litR, litF, kw, nw, aw, lit1])
    have BN := hid (B6.new w2 26 (.string ⟨#[108, 105, 116]⟩) (.string ⟨#[]⟩) (.int .i64 5) (.int .i64 (xn : Nat)) (.int .i64 (xa : Nat)) (.slice none 0 0))
    have HBL := hid (show Below w2.heap.size w2 (w2.alloc (.cells #[.string ⟨#[108, 105, 116]⟩, .string ⟨#[]⟩, .int .i64 5, .int .i64 (xn : Nat), .int .i64 (xa : Nat), .slice none 0 0] 26)) from (Below.refl _ _).alloc (Nat.le_refl _) _)
    have HPn := hid (HP.out.next HBL.out)
    have HGn := hid (HG.out.below HBL.out)
    have HRn := hid (HB.out.next HBL.out)
    go_upto_region 16 with fail
    generalize World.alloc w2 _ = w3 at *
    generalize w2.heap.size = gn at *
    replace pz := HPn.out.fz 1
    replace p1 := HPn.out.c1
    have HPm := hid (HPn.out.step (HM.out (Or.inl (by decide))))
    have HGm := hid (HGn.out.set (i := 1) (.int .i64 ((k : Int) + 1)))
    have HRm := hid (HRn.out.put (i := 1) (q := p) (by omega) (.int .i64 ((k : Int) + 1)))
    have BNm := hid (BN.out.put (i := 1) (q := p) (by omega) (.int .i64 ((k : Int) + 1)))
    clear HPn HGn HRn BN HP HG HB HBL
    go_upto_region 17 with fail
    generalize World.setCell w3 _ _ = w5 at *
    obtain ⟨n0, n1, n2, n3, n4, n5, _⟩ := BNm.out
    obtain ⟨r0, r1, r2, r3, r4, r5, rz⟩ := HRm.out
    have BF := hid (HRm.out.sets (.string ⟨#[108, 105, 116]⟩) (.string ⟨#[]⟩) (.int .i64 5) (.int .i64 (xn : Nat)) (.int .i64 (xa : Nat)) (.slice none 0 0))
    have PF := hid (HPm.out.put6 (q := w.heap.size) (by omega) (by omega) (.string ⟨#[108, 105, 116]⟩) (.string ⟨#[]⟩) (.int .i64 5) (.int .i64 (xn : Nat)) (.int .i64 (xa : Nat)) (.slice none 0 0))
    have GF := hid (HGm.out.put6 (q := w.heap.size) (by omega) (.string ⟨#[108, 105, 116]⟩) (.string ⟨#[]⟩) (.int .i64 5) (.int .i64 (xn : Nat)) (.int .i64 (xa : Nat)) (.slice none 0 0))
    go_wp2_with fail
    generalize World.setCell _ ⟨w.heap.size, 5, none⟩ _ = w6 at *
    obtain ⟨f0, f1, f2, f3, f4, f5, _⟩ := BF.out
    exact bodyPost_ret (v := .tuple #[.agg #[.string ⟨#[108, 105, 116]⟩, .string ⟨#[]⟩, .int .i64 5, .int .i64 (xn : Nat), .int .i64 (xa : Nat), .slice none 0 0], .bool true]) (by simp [results, Tryd.results60, go_sem, f0, f1, f2, f3, f4, f5]) rfl (Rp.yes (Nat.lt_succ_self k) LR.out GF.out PF.out (Nv.leaf ⟨#[108, 105, 116]⟩ ⟨#[]⟩ 5 xn xa))
  have i6 : (xk : Int) ≠ 6 := by omega
  cases q7 : eqB xt ⟨#[116, 114, 117, 101]⟩
  · have u7 : (xt.toList == [116, 114, 117, 101]) = false := (eqL xt [116, 114, 117, 101]).trans q7
    cases q8 : eqB xt ⟨#[102, 97, 108, 115, 101]⟩
    · have u8 : (xt.toList == [102, 97, 108, 115, 101]) = false := (eqL xt [102, 97, 108, 115, 101]).trans q8
      have LR := hid (show litR (ws.drop k) o = ⟨none, ws.drop k, o⟩ from by rw [E1.out]; simp [litR, litF, kw, tw, nw, aw, lit1, q3, q4, q5, q6, q7, q8])
      have HBL := hid (show Below w2.heap.size w2 (w2.alloc (.cells #[.string ⟨#[108, 105, 116]⟩, .string ⟨#[]⟩, .int .i64 0, .int .i64 (xn : Nat), .int .i64 (xa : Nat), .slice none 0 0] 26)) from (Below.refl _ _).alloc (Nat.le_refl _) _)
      have HPn := hid (HP.out.next HBL.out)
      have HGn := hid (HG.out.below HBL.out)
      have HRn := hid (HB.out.next HBL.out)
      go_upto_region 3 with fail
      generalize World.alloc w2 _ = w3 at *
      obtain ⟨r0, r1, r2, r3, r4, r5, rz⟩ := HRn.out
      have BF := hid (HRn.out.sets (.string ⟨#[]⟩) (.string ⟨#[]⟩) (.int .i64 0) (.int .i64 0) (.int .i64 0) (.slice none 0 0))
      have PF := hid (HPn.out.put6 (q := w.heap.size) (by omega) (by omega) (.string ⟨#[]⟩) (.string ⟨#[]⟩) (.int .i64 0) (.int .i64 0) (.int .i64 0) (.slice none 0 0))
      have GF := hid (HGn.out.put6 (q := w.heap.size) (by omega) (.string ⟨#[]⟩) (.string ⟨#[]⟩) (.int .i64 0) (.int .i64 0) (.int .i64 0) (.slice none 0 0))
      go_wp2_with fail
      generalize World.setCell _ ⟨w.heap.size, 5, none⟩ _ = w6 at *
      obtain ⟨f0, f1, f2, f3, f4, f5, _⟩ := BF.out
      exact bodyPost_ret (v := .tuple #[.agg #[.string ⟨#[]⟩, .string ⟨#[]⟩, .int .i64 0, .int .i64 0, .int .i64 0, .slice none 0 0], .bool false]) (by simp [results, Tryd.results60, go_sem, f0, f1, f2, f3, f4, f5]) rfl (Rp.no (Nat.le_refl k) LR.out GF.out PF.out (Nv.leaf ⟨#[]⟩ ⟨#[]⟩ 0 0 0))
    · have u8 : (xt.toList == [102, 97, 108, 115, 101]) = true := (eqL xt [102, 97, 108, 115, 101]).trans q8
      have LR := hid (show litR (ws.drop k) o = ⟨some (lit1 1 xn xa), ws.drop (k + 1), o⟩ from by rw [E1.out]; simp [litR, litF, kw, tw, nw, aw, lit1, q3, q4, q5, q6, q7, q8])
      have BN := hid (B6.new w2 26 (.string ⟨#[108, 105, 116]⟩) (.string ⟨#[]⟩) (.int .i64 1) (.int .i64 (xn : Nat)) (.int .i64 (xa : Nat)) (.slice none 0 0))
      have HBL := hid (show Below w2.heap.size w2 (w2.alloc (.cells #[.string ⟨#[108, 105, 116]⟩, .string ⟨#[]⟩, .int .i64 1, .int .i64 (xn : Nat), .int .i64 (xa : Nat), .slice none 0 0] 26)) from (Below.refl _ _).alloc (Nat.le_refl _) _)
      have HPn := hid (HP.out.next HBL.out)
      have HGn := hid (HG.out.below HBL.out)
      have HRn := hid (HB.out.next HBL.out)
      go_upto_region 16 with fail
      generalize World.alloc w2 _ = w3 at *
      generalize w2.heap.size = gn at *
      replace pz := HPn.out.fz 1
      replace p1 := HPn.out.c1
      have HPm := hid (HPn.out.step (HM.out (Or.inr (fun z => by rw [z] at q8; cases q8))))
      have HGm := hid (HGn.out.set (i := 1) (.int .i64 ((k : Int) + 1)))
      have HRm := hid (HRn.out.put (i := 1) (q := p) (by omega) (.int .i64 ((k : Int) + 1)))
      have BNm := hid (BN.out.put (i := 1) (q := p) (by omega) (.int .i64 ((k : Int) + 1)))
      clear HPn HGn HRn BN HP HG HB HBL
      go_upto_region 17 with fail
      generalize World.setCell w3 _ _ = w5 at *
      obtain ⟨n0, n1, n2, n3, n4, n5, _⟩ := BNm.out
      obtain ⟨r0, r1, r2, r3, r4, r5, rz⟩ := HRm.out
      have BF := hid (HRm.out.sets (.string ⟨#[108, 105, 116]⟩) (.string ⟨#[]⟩) (.int .i64 1) (.int .i64 (xn : Nat)) (.int .i64 (xa : Nat)) (.slice none 0 0))
      have PF := hid (HPm.out.put6 (q := w.heap.size) (by omega) (by omega) (.string ⟨#[108, 105, 116]⟩) (.string ⟨#[]⟩) (.int .i64 1) (.int .i64 (xn : Nat)) (.int .i64 (xa : Nat)) (.slice none 0 0))
      have GF := hid (HGm.out.put6 (q := w.heap.size) (by omega) (.string ⟨#[108, 105, 116]⟩) (.string ⟨#[]⟩) (.int .i64 1) (.int .i64 (xn : Nat)) (.int .i64 (xa : Nat)) (.slice none 0 0))
      go_wp2_with fail
      generalize World.setCell _ ⟨w.heap.size, 5, none⟩ _ = w6 at *
      obtain ⟨f0, f1, f2, f3, f4, f5, _⟩ := BF.out
      exact bodyPost_ret (v := .tuple #[.agg #[.string ⟨#[108, 105, 116]⟩, .string ⟨#[]⟩, .int .i64 1, .int .i64 (xn : Nat), .int .i64 (xa : Nat), .slice none 0 0], .bool true]) (by simp [results, Tryd.results60, go_sem, f0, f1, f2, f3, f4, f5]) rfl (Rp.yes (Nat.lt_succ_self k) LR.out GF.out PF.out (Nv.leaf ⟨#[108, 105, 116]⟩ ⟨#[]⟩ 1 xn xa))
  · have u7 : (xt.toList == [116, 114, 117, 101]) = true := (eqL xt [116, 114, 117, 101]).trans q7
    have LR := hid (show litR (ws.drop k) o = ⟨some (lit1 1 1 xa), ws.drop (k + 1), o⟩ from by rw [E1.out]; simp [litR, litF, kw, tw, nw, aw, lit1, q3, q4, q5, q6, q7])
    have BN := hid (B6.new w2 26 (.string ⟨#[108, 105, 116]⟩) (.string ⟨#[]⟩) (.int .i64 1) (.int .i64 1) (.int .i64 (xa : Nat)) (.slice none 0 0))
    have HBL := hid (show Below w2.heap.size w2 (w2.alloc (.cells #[.string ⟨#[108, 105, 116]⟩, .string ⟨#[]⟩, .int .i64 1, .int .i64 1, .int .i64 (xa : Nat), .slice none 0 0] 26)) from (Below.refl _ _).alloc (Nat.le_refl _) _)
    have HPn := hid (HP.out.next HBL.out)
    have HGn := hid (HG.out.below HBL.out)
    have HRn := hid (HB.out.next HBL.out)
    go_upto_region 16 with fail
    generalize World.alloc w2 _ = w3 at *
    generalize w2.heap.size = gn at *
    replace pz := HPn.out.fz 1
    replace p1 := HPn.out.c1
    have HPm := hid (HPn.out.step (HM.out (Or.inr (fun z => by rw [z] at q7; cases q7))))
    have HGm := hid (HGn.out.set (i := 1) (.int .i64 ((k : Int) + 1)))
    have HRm := hid (HRn.out.put (i := 1) (q := p) (by omega) (.int .i64 ((k : Int) + 1)))
    have BNm := hid (BN.out.put (i := 1) (q := p) (by omega) (.int .i64 ((k : Int) + 1)))
    clear HPn HGn HRn BN HP HG HB HBL
    go_upto_region 17 with fail
    generalize World.setCell w3 _ _ = w5 at *
    obtain ⟨n0, n1, n2, n3, n4, n5, _⟩ := BNm.out
    obtain ⟨r0, r1, r2, r3, r4, r5, rz⟩ := HRm.out
    have BF := hid (HRm.out.sets (.string ⟨#[108, 105, 116]⟩) (.string ⟨#[]⟩) (.int .i64 1) (.int .i64 1) (.int .i64 (xa : Nat)) (.slice none 0 0))
    have PF := hid (HPm.out.put6 (q := w.heap.size) (by omega) (by omega) (.string ⟨#[108, 105, 116]⟩) (.string ⟨#[]⟩) (.int .i64 1) (.int .i64 1) (.int .i64 (xa : Nat)) (.slice none 0 0))
    have GF := hid (HGm.out.put6 (q := w.heap.size) (by omega) (.string ⟨#[108, 105, 116]⟩) (.string ⟨#[]⟩) (.int .i64 1) (.int .i64 1) (.int .i64 (xa : Nat)) (.slice none 0 0))
    go_wp2_with fail
    generalize World.setCell _ ⟨w.heap.size, 5, none⟩ _ = w6 at *
    obtain ⟨f0, f1, f2, f3, f4, f5, _⟩ := BF.out
    exact bodyPost_ret (v := .tuple #[.agg #[.string ⟨#[108, 105, 116]⟩, .string ⟨#[]⟩, .int .i64 1, .int .i64 1, .int .i64 (xa : Nat), .slice none 0 0], .bool true]) (by simp [results, Tryd.results60, go_sem, f0, f1, f2, f3, f4, f5]) rfl (Rp.yes (Nat.lt_succ_self k) LR.out GF.out PF.out (Nv.leaf ⟨#[108, 105, 116]⟩ ⟨#[]⟩ 1 1 xa))
end Go.Proofs.YtobolipjgkabhaaDoor
