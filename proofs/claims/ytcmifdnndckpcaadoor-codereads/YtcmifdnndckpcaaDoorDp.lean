/- The walks over code's Name and Show. -/
import Derived.Test.YtcmifdnndckpcaaDoorDj
import Derived.Shelf.Strconv.Itoa3
import Derived.Lib.AppendIntMem
namespace Go.Proofs.YtcmifdnndckpcaaDoor
open Go.Shelf Go.RowKit
set_option linter.unusedVariables false
set_option linter.unusedSimpArgs false

def renIt : Ren := ⟨fun | 129 => 86 | 171 => 23 | 243 => 59 | 246 => 77 | 283 => 81 | 284 => 82 | 285 => 83 | 286 => 84 | 317 => 85 | 318 => 87 | 319 => 88 | 320 => 89 | 337 => 90 | 338 => 91 | n => n, fun | 0 => 0 | 2 => 2 | 3 => 3 | 4 => 4 | 5 => 5 | 9 => 9 | 20 => 20 | 37 => 38 | 46 => 79 | 51 => 77 | 53 => 107 | 171 => 119 | 173 => 122 | 212 => 126 | 213 => 127 | 232 => 131 | 233 => 132 | n => n, fun | 17 => 2 | 18 => 3 | 19 => 4 | n => n⟩
theorem laysIt : LaysM.n171 Tryd.prog renIt :=
  { mixed := by kernel_rfl
    f129 := by kernel_rfl
    f171 := by kernel_rfl
    f243 := by kernel_rfl
    f246 := by kernel_rfl
    f283 := by kernel_rfl
    f284 := by kernel_rfl
    f285 := by kernel_rfl
    f286 := by kernel_rfl
    f317 := by kernel_rfl
    f318 := by kernel_rfl
    f319 := by kernel_rfl
    f320 := by kernel_rfl
    f337 := by kernel_rfl
    f338 := by kernel_rfl
    t0 := by kernel_rfl
    a0 := fun _ => by kernel_rfl
    z0 := fun _ => by kernel_rfl
    v0 := fun _ => by kernel_rfl
    t2 := by kernel_rfl
    a2 := fun _ => by kernel_rfl
    z2 := fun _ => by kernel_rfl
    v2 := fun _ => by kernel_rfl
    t3 := by kernel_rfl
    a3 := fun _ => by kernel_rfl
    z3 := fun _ => by kernel_rfl
    v3 := fun _ => by kernel_rfl
    t4 := by kernel_rfl
    a4 := fun _ => by kernel_rfl
    z4 := fun _ => by kernel_rfl
    v4 := fun _ => by kernel_rfl
    t5 := by kernel_rfl
    a5 := fun _ => by kernel_rfl
    z5 := fun _ => by kernel_rfl
    v5 := fun _ => by kernel_rfl
    t9 := by kernel_rfl
    a9 := fun _ => by kernel_rfl
    z9 := fun _ => by kernel_rfl
    v9 := fun _ => by kernel_rfl
    t20 := by kernel_rfl
    a20 := fun _ => by kernel_rfl
    z20 := fun _ => by kernel_rfl
    v20 := fun _ => by kernel_rfl
    t37 := by kernel_rfl
    a37 := fun _ => by kernel_rfl
    z37 := fun _ => by kernel_rfl
    v37 := fun _ => by kernel_rfl
    t46 := by kernel_rfl
    a46 := fun _ => by kernel_rfl
    z46 := fun _ => by kernel_rfl
    v46 := fun _ => by kernel_rfl
    t51 := by kernel_rfl
    a51 := fun _ => by kernel_rfl
    z51 := fun _ => by kernel_rfl
    v51 := fun _ => by kernel_rfl
    t53 := by kernel_rfl
    a53 := fun _ => by kernel_rfl
    z53 := fun _ => by kernel_rfl
    v53 := fun _ => by kernel_rfl
    t171 := by kernel_rfl
    a171 := fun _ => by kernel_rfl
    z171 := fun _ => by kernel_rfl
    v171 := fun _ => by kernel_rfl
    t173 := by kernel_rfl
    a173 := fun _ => by kernel_rfl
    z173 := fun _ => by kernel_rfl
    v173 := fun _ => by kernel_rfl
    t212 := by kernel_rfl
    a212 := fun _ => by kernel_rfl
    z212 := fun _ => by kernel_rfl
    v212 := fun _ => by kernel_rfl
    t213 := by kernel_rfl
    a213 := fun _ => by kernel_rfl
    z213 := fun _ => by kernel_rfl
    t232 := by kernel_rfl
    a232 := fun _ => by kernel_rfl
    z232 := fun _ => by kernel_rfl
    v232 := fun _ => by kernel_rfl
    t233 := by kernel_rfl
    a233 := fun _ => by kernel_rfl
    z233 := fun _ => by kernel_rfl
    v233 := fun _ => by kernel_rfl
    g17 := by kernel_rfl
    g18 := by kernel_rfl
    g19 := by kernel_rfl
    i0 := by kernel_rfl
    i2 := by kernel_rfl
    i3 := by kernel_rfl
    i4 := by kernel_rfl
    i5 := by kernel_rfl
    i9 := by kernel_rfl
    i20 := by kernel_rfl
    i37 := by kernel_rfl
    i46 := by kernel_rfl
    i51 := by kernel_rfl
    i53 := by kernel_rfl
    i171 := by kernel_rfl
    i173 := by kernel_rfl
    i212 := by kernel_rfl
    i232 := by kernel_rfl
    i233 := by kernel_rfl
    m17 := by kernel_rfl
    m18 := by kernel_rfl
    m19 := by kernel_rfl }

/-- A number's decimal text. -/
def itS (n : Int) : ByteArray := ⟨(Lib.itoa n).toArray⟩
theorem digs_len (k : Nat) : ∀ u : Nat, u < 10 ^ (k + 1) → (Lib.decDigits u).length ≤ k + 1 := by
  induction k with
  | zero => intro u h; rw [Lib.decDigits, dif_pos (by simpa using h)]; simp
  | succ k ih =>
    intro u h
    rw [Lib.decDigits]
    split
    · simp
    · have := ih (u / 10) (by rw [Nat.div_lt_iff_lt_mul (by decide)]; rw [Nat.pow_succ] at h; exact h)
      rw [List.length_append]
      simp
      omega
theorem itS_size {n : Int} (h : cI.ok n) : (itS n).size ≤ 20 := by
  have e : (itS n).size = (Lib.itoa n).length := by unfold itS; simp [ByteArray.size]
  rw [e]
  unfold Lib.itoa
  have t : (10 : Nat) ^ (18 + 1) = 10000000000000000000 := by decide
  obtain ⟨h0, h1⟩ := h
  split
  · have := digs_len 18 n.natAbs (by rw [t]; omega)
    rw [List.length_cons]; omega
  · have := digs_len 18 n.toNat (by rw [t]; omega)
    omega
/-- The table of powers of ten. -/
def Pt (w : World) : Prop := Lib.TabIs Tryd.prog w "internal/strconv.uint64pow10" .u64 Lib.pow10Tab
theorem Pt.next {w w' : World} (h : Pt w) (b : Below w.heap.size w w') : Pt w' := Lib.tabBelow_of_tabIs h w' b
theorem itoa_any (n : Int) (w : World) (h : cI.ok n) (ht : Pt w) : Calls Tryd.prog 23 #[.int .i64 n] w fun e w' => e = .returned (.string (itS n)) ∧ Below w.heap.size w w' := by
  refine (Any.strconv_Itoa laysIt n h.1 (by have := h.2; omega) w ht).mono ?_
  rintro e w' ⟨rfl, k, os, rfl⟩
  exact ⟨rfl, Lib.below_grow _ w (Nat.le_refl _) k os⟩

def nmL : List ByteArray := [⟨#[99, 111, 110, 115, 116]⟩, ⟨#[105, 110]⟩, ⟨#[108, 111, 97, 100]⟩, ⟨#[115, 116, 111, 114, 101]⟩, ⟨#[97, 100, 100]⟩, ⟨#[115, 117, 98]⟩, ⟨#[109, 117, 108]⟩, ⟨#[100, 105, 118]⟩, ⟨#[110, 101, 103]⟩, ⟨#[110, 111, 116]⟩, ⟨#[108, 116]⟩, ⟨#[108, 101]⟩, ⟨#[101, 113]⟩, ⟨#[109, 105, 110]⟩, ⟨#[109, 97, 120]⟩, ⟨#[108, 101, 110]⟩, ⟨#[97, 116]⟩, ⟨#[106, 117, 109, 112]⟩, ⟨#[117, 110, 108, 101, 115, 115]⟩, ⟨#[102, 105, 114, 115, 116]⟩, ⟨#[110, 101, 120, 116]⟩, ⟨#[109, 97, 114, 107]⟩, ⟨#[111, 117, 116]⟩, ⟨#[104, 97, 108, 116]⟩]
def noL : List Nat := [1, 1, 1, 1, 1, 1, 1, 1, 1, 0, 1, 1, 1, 1, 1, 1, 1, 1, 1, 3, 3, 1, 1, 0]
/-- An instruction's name, and how many operands it has. -/
def opN (op : Int) : ByteArray := if 0 ≤ op ∧ op < 24 then nmL.getD op.toNat ⟨#[]⟩ else ⟨#[]⟩
def opK (op : Int) : Nat := if 0 ≤ op ∧ op < 24 then noL.getD op.toNat 0 else 0
theorem opK_cases (op : Int) : opK op = 0 ∨ opK op = 1 ∨ opK op = 3 := by
  unfold opK
  split
  · have key : ∀ i : Fin 24, noL.getD i.val 0 = 0 ∨ noL.getD i.val 0 = 1 ∨ noL.getD i.val 0 = 3 := by decide
    exact key ⟨op.toNat, by omega⟩
  · exact Or.inl rfl
theorem opN_size (op : Int) : (opN op).size ≤ 10 := by
  unfold opN
  split
  · have key : ∀ i : Fin 24, (nmL.getD i.val ⟨#[]⟩).size ≤ 10 := by decide
    exact key ⟨op.toNat, by omega⟩
  · decide
/-- The table of instructions lies in its place. -/
def RT (w : World) : Prop := 0 < w.heap.size ∧ ∀ i, i < 24 → w.cell? ⟨0, i * 2, none⟩ = some (.string (nmL.getD i ⟨#[]⟩)) ∧ w.cell? ⟨0, i * 2 + 1, none⟩ = some (.int .i64 ((noL.getD i 0 : Nat) : Int))
theorem RT.next {w w' : World} (h : RT w) (b : Below w.heap.size w w') : RT w' :=
  ⟨Nat.lt_of_lt_of_le h.1 b.size, fun i hi => ⟨celB b (h.2 i hi).1, celB b (h.2 i hi).2⟩⟩
theorem set2 {w : World} {r : Nat} {x0 x1 : Value} (a b : Value) (h0 : w.cell? ⟨r, 0, none⟩ = some x0) (h1 : w.cell? ⟨r, 1, none⟩ = some x1) :
    ((w.setCell ⟨r, 0, none⟩ a).setCell ⟨r, 1, none⟩ b).cell? ⟨r, 0, none⟩ = some a ∧ ((w.setCell ⟨r, 0, none⟩ a).setCell ⟨r, 1, none⟩ b).cell? ⟨r, 1, none⟩ = some b := by
  have n : ∀ (W : World) (i j : Nat) (v : Value), i ≠ j → (W.setCell ⟨r, i, none⟩ v).cell? ⟨r, j, none⟩ = W.cell? ⟨r, j, none⟩ := fun W i j v h => by
    first | exact World.cell?_setCell_other _ _ _ _ (fun e => h (by injection e)) | exact World.cell?_setCell_other _ _ _ _ (fun e => h (by injection e with _ e; exact e.symm))
  exact ⟨(n _ _ _ _ (by decide)).trans (World.cell?_setCell_same _ _ _ h0), World.cell?_setCell_same _ _ _ ((n _ _ _ _ (by decide)).trans h1)⟩
theorem bl_set2 {w w1 : World} {r : Nat} (b : Below w.heap.size w w1) (hr : r = w.heap.size) (x y : Value) : Below w.heap.size w ((w1.setCell ⟨r, 0, none⟩ x).setCell ⟨r, 1, none⟩ y) :=
  b.grown (grownBy_trans (grownBy_setCell w1 r 0 x) (grownBy_setCell _ r 1 y)) b.size (fun k e => by injection e with e; omega)
set_option maxRecDepth 100000 in
set_option maxHeartbeats 8000000 in
theorem rowOf_any (op : Int) (w : World) (ht : RT w) : Calls Tryd.prog 22 #[.int .i64 op] w fun e w' => e = .returned (.agg #[.string (opN op), .int .i64 ((opK op : Nat) : Int)]) ∧ Below w.heap.size w w' := by
  have X0 := hid (Bx.new w #[.string ⟨#[]⟩, .int .i64 0] 52 (by decide))
  have B0 := hid (allocB w (.cells #[.string ⟨#[]⟩, .int .i64 0] 52))
  have T0 := hid (ht.next B0.out)
  obtain ⟨r, hr⟩ : ∃ r, r = w.heap.size := ⟨_, rfl⟩
  have WR := hid hr
  rw [← hr] at X0
  clear hr ht
  by_cases q : 0 ≤ op ∧ op < 24
  · have e1 : opN op = nmL.getD op.toNat ⟨#[]⟩ := by unfold opN; rw [if_pos q]
    have e2 : opK op = noL.getD op.toNat 0 := by unfold opK; rw [if_pos q]
    rw [e1, e2]
    obtain ⟨i, rfl⟩ : ∃ i : Nat, op = i := ⟨op.toNat, by omega⟩
    have hi : i < 24 := by omega
    simp only [Int.toNat_natCast]
    have TC := hid (T0.out.2 i hi)
    clear q e1 e2 T0
    generalize nmL.getD i ⟨#[]⟩ = nm at *
    generalize noL.getD i 0 = no at *
    have i1 : ¬ ((i : Int) < 0) := by omega
    have i2 : ¬ ((24 : Int) ≤ (i : Int)) := by omega
    go_enter Tryd.func22, Tryd.ntmps22
    go_upto_region 1 with fail
    rw [← WR.out]
    generalize World.alloc w _ = w0 at *
    obtain ⟨t0, t1⟩ := TC.out
    have d0 := X0.out.cell 0 _ rfl
    have d1 := X0.out.cell 1 _ rfl
    have fz := X0.out.fz
    have S := hid (set2 (.string nm) (.int .i64 (no : Nat)) d0 d1)
    have BF := hid (bl_set2 B0.out WR.out (.string nm) (.int .i64 (no : Nat)))
    go_wp2_with fail
    clear fz d0 d1 t0 t1
    generalize ((w0.setCell ⟨r, 0, none⟩ (.string nm)).setCell ⟨r, 1, none⟩ (.int .i64 (no : Nat))) = wf at *
    obtain ⟨f0, f1⟩ := S.out
    try simp only [Exit.inBlock, Exit.then]
    refine bodyPost_ret (by simp [results, Tryd.results22, go_sem, f0, f1]; try rfl) rfl ?_
    exact ⟨rfl, BF.out⟩
  · have e1 : opN op = ⟨#[]⟩ := by unfold opN; rw [if_neg q]
    have e2 : opK op = 0 := by unfold opK; rw [if_neg q]
    rw [e1, e2]
    clear e1 e2 T0
    go_enter Tryd.func22, Tryd.ntmps22
    go_upto_region 1 with fail
    rw [← WR.out]
    generalize World.alloc w _ = w0 at *
    have d0 := X0.out.cell 0 _ rfl
    have d1 := X0.out.cell 1 _ rfl
    have fz := X0.out.fz
    have S := hid (set2 (.string ⟨#[]⟩) (.int .i64 0) d0 d1)
    have BF := hid (bl_set2 B0.out WR.out (.string ⟨#[]⟩) (.int .i64 0))
    by_cases q1 : op < 0
    · go_wp2_with fail
      clear fz d0 d1
      generalize ((w0.setCell ⟨r, 0, none⟩ (.string ⟨#[]⟩)).setCell ⟨r, 1, none⟩ (.int .i64 0)) = wf at *
      obtain ⟨f0, f1⟩ := S.out
      try simp only [Exit.inBlock, Exit.then]
      refine bodyPost_ret (by simp [results, Tryd.results22, go_sem, f0, f1]; try rfl) rfl ?_
      exact ⟨rfl, BF.out⟩
    · have q2 : 24 ≤ op := by omega
      go_wp2_with fail
      clear fz d0 d1
      generalize ((w0.setCell ⟨r, 0, none⟩ (.string ⟨#[]⟩)).setCell ⟨r, 1, none⟩ (.int .i64 0)) = wf at *
      obtain ⟨f0, f1⟩ := S.out
      try simp only [Exit.inBlock, Exit.then]
      refine bodyPost_ret (by simp [results, Tryd.results22, go_sem, f0, f1]; try rfl) rfl ?_
      exact ⟨rfl, BF.out⟩
set_option maxRecDepth 100000 in
set_option maxHeartbeats 8000000 in
theorem code_Name_any (op : Int) (w : World) (ht : RT w) : Calls Tryd.prog 9 #[.int .i64 op] w fun e w' => e = .returned (.string (opN op)) ∧ Below w.heap.size w w' := by
  have K := hid (rowOf_any op w ht)
  clear ht
  generalize opN op = nm at *
  generalize opK op = no at *
  have fd : ∀ W : World, (Instr.field 52 (.agg #[.string nm, .int .i64 (no : Nat)]) 0).run Tryd.prog W = .ok (.string nm) W := fun W => by kernel_rfl
  go_enter Tryd.func9, Tryd.ntmps9
  go_wp2_with (go_at_call 22; (with_reducible refine Calls.mono K.out ?_); rintro e w1 ⟨rfl, b1⟩)
  go_ret
  exact ⟨rfl, b1⟩
/-- An instruction in words. -/
def shP (op a b c : Int) : ByteArray := if opK op = 0 then opN op else if opK op = 1 then opN op ++ (⟨#[32]⟩ ++ itS a) else opN op ++ (⟨#[32]⟩ ++ itS a) ++ (⟨#[32]⟩ ++ itS b) ++ (⟨#[32]⟩ ++ itS c)

end Go.Proofs.YtcmifdnndckpcaaDoor
