/- The walk over package frame: Add, where it writes. -/
import Derived.Test.YtblmfkdcahhhbaaDoorH8
namespace Go.Proofs.YtblmfkdcahhhbaaDoor
open Go.RowKit Go.Shelf
set_option linter.unusedVariables false
set_option linter.unusedSimpArgs false
attribute [local go_sem] Oper.semAt_some

theorem wS_wr (n : Nat) (s : St) (i : Int) (b : List Int) : (wS n s i b).writes ≤ s.writes + 1 ∧ (wS n s i b).lives = s.lives := by
  unfold wS
  split
  · split
    · split
      · split
        · exact ⟨Nat.le_succ _, rfl⟩
        · exact ⟨Nat.le_succ _, rfl⟩
      · exact ⟨Nat.le_refl _, rfl⟩
    · exact ⟨Nat.le_succ _, rfl⟩
  · exact ⟨Nat.le_succ _, rfl⟩
theorem wfold_wr {N base : Nat} {f : Nat → List Int} {n : Nat} (pre : List (Ix n)) (s : St) : (wfold N base f pre s).writes ≤ s.writes + pre.length ∧ (wfold N base f pre s).lives = s.lives := by
  induction pre generalizing s with
  | nil => exact ⟨Nat.le_refl _, rfl⟩
  | cons x l ih =>
    have h1 := wS_wr N s ((base + x.1 : Nat) : Int) (f x.1)
    have h2 := ih (wS N s ((base + x.1 : Nat) : Int) (f x.1))
    show (wfold N base f l (wS N s ((base + x.1 : Nat) : Int) (f x.1))).writes ≤ _ ∧ (wfold N base f l (wS N s ((base + x.1 : Nat) : Int) (f x.1))).lives = _
    rw [List.length_cons]
    exact ⟨by omega, by rw [h2.2, h1.2]⟩
theorem SlE.fn {w0 w : World} {b n cap : Nat} {f : Nat → List Int} (h : SlE w0 w b n cap f) : ∃ A : Nat → Sv, ∀ j, j < n → w.cell? ⟨b, j, none⟩ = some (svOf (A j)) ∧ By w (A j).1 (A j).2.1 (A j).2.2 (f j) ∧ (∀ x, (A j).1 = some x → w0.heap.size ≤ x.block) := by
  have key : ∀ j, ∃ x : Sv, j < n → w.cell? ⟨b, j, none⟩ = some (svOf x) ∧ By w x.1 x.2.1 x.2.2 (f j) ∧ (∀ y, x.1 = some y → w0.heap.size ≤ y.block) := fun j => by
    by_cases hj : j < n
    · obtain ⟨a, m, c, h1, h2, h3⟩ := h.at_ j hj
      exact ⟨(a, m, c), fun _ => ⟨h1, h2, h3⟩⟩
    · exact ⟨(none, 0, 0), fun h => absurd h hj⟩
  exact ⟨fun j => Classical.choose (key j), fun j hj => Classical.choose_spec (key j) hj⟩
/-- The turn of a new block that is no cells. -/
theorem Ch1.turn {S : List Nat} {w0 X Y : World} {row : Option Nat} (h : Ch1 S w0 X) (hg : X.grownBy Y row) (hr : ∀ r, row = some r → w0.heap.size ≤ r) : Ch1 S w0 Y :=
  ⟨hg.os.trans h.os, hg.tape.trans h.tape, hg.output.trans h.output, Nat.le_trans h.size hg.size, fun k hk hn => (hg.block k (Nat.lt_of_lt_of_le hk h.size) (fun e => by have := hr k e.symm; omega)).trans (h.block k hk hn)⟩
theorem Dk.turn {X Y : World} {p q n B : Nat} {s : St} {row : Option Nat} (h : Dk X p q n s) (hg : X.grownBy Y row) (hr : ∀ r, row = some r → B ≤ r) (hp : p < B) (hq : q < B) : Dk Y p q n s :=
  h.kept (hg.block p h.ltp (fun e => by have := hr p e.symm; omega)) (hg.block q h.ltq (fun e => by have := hr q e.symm; omega))
theorem Ch1.cell {S : List Nat} {w w' : World} (h : Ch1 S w w') {b o : Nat} {x : Value} (hc : w.cell? ⟨b, o, none⟩ = some x) (hn : b ∉ S) : w'.cell? ⟨b, o, none⟩ = some x :=
  (World.cell?_of_block (w := w) (a := ⟨b, o, none⟩) (h.block b (World.block_lt_of_cell? _ _ hc) hn)).trans hc
theorem Ch1.boxed {S : List Nat} {w w' : World} (h : Ch1 S w w') {b : Nat} {t : TypeId} {x : Value} (hb : Boxed w b t x) (hn : b ∉ S) : Boxed w' b t x := (h.block b hb.lt hn).trans hb
theorem Gr.keeps {p q n : Nat} {s : St} {w w' : World} (g : Gr p q w w') (d : Dk w p q n s) : KeepsOthers w w' := by
  refine ⟨g.size, fun k o hk ho => ?_⟩
  by_cases e1 : k = p
  · subst e1
    have := d.c1
    cases o with
    | cells cs t fz => cases ho
    | _ => simp [World.cell?, hk] at this
  · by_cases e2 : k = q
    · subst e2
      have := d.cell (i := 0) (j := 0) d.pos (by decide)
      cases o with
      | cells cs t fz => cases ho
      | _ => simp [World.cell?, hk] at this
    · rw [g.block k (Array.getElem?_eq_some_iff.1 hk).1 e1 e2]; exact hk

/-- The rounds so far: all of them wrote. -/
structure AdI (N base : Nat) (f : Nat → List Int) (s : St) (p q : Nat) {n : Nat} (w5 : World) (pre : List (Ix n)) (W : World) : Prop where
  ok : allOk N base f s pre
  d : Dk W p q N (wfold N base f pre s)
  ch : Ch1 [p, q] w5 W
/-- A round more, which answered v. -/
structure AdR (N base : Nat) (f : Nat → List Int) (s : St) (p q : Nat) {n : Nat} (w5 : World) (pre : List (Ix n)) (x : Ix n) (W : World) (v : Int) : Prop where
  ok : allOk N base f s pre
  e : wE N (wfold N base f pre s) ((base + x.1 : Nat) : Int) (f x.1) = v
  d : Dk W p q N (wfold N base f (pre ++ [x]) s)
  ch : Ch1 [p, q] w5 W
/-- The round that did not write well. -/
structure AdX (N base : Nat) (f : Nat → List Int) (s : St) (p q B : Nat) {n : Nat} (w5 : World) (c : Code) (pre : List (Ix n)) (W : World) : Prop where
  c : c = Code.ret
  k : ∃ ini x, pre = ini ++ [x] ∧ allOk N base f s ini ∧ wE N (wfold N base f ini s) ((base + x.1 : Nat) : Int) (f x.1) ≠ 0 ∧ W.cell? ⟨B + 1 + 1, 0, none⟩ = some (.int .i64 (wE N (wfold N base f ini s) ((base + x.1 : Nat) : Int) (f x.1)))
  z : W.cell? ⟨B + 1, 0, none⟩ = some (.int .i64 0)
  d : Dk W p q N (wfold N base f pre s)
  ch : Ch1 [p, q, B + 1, B + 1 + 1] w5 W
theorem AdI.own {N base : Nat} {f : Nat → List Int} {s : St} {p q n : Nat} {w5 : World} (hp : p < w5.heap.size) (hq : q < w5.heap.size) : OwnFrom w5.heap.size (fun (pre : List (Ix n)) W => AdI N base f s p q w5 pre W) :=
  fun pre W W' row h hg hr => ⟨h.ok, h.d.turn hg (fun r e => (hr r e).1) hp hq, h.ch.turn hg (fun r e => (hr r e).1)⟩
theorem cellTurn {X Y : World} {row : Option Nat} {B b o : Nat} {v : Value} (hc : X.cell? ⟨b, o, none⟩ = some v) (hg : X.grownBy Y row) (hr : ∀ r, row = some r → B ≤ r) (hb : b < B) : Y.cell? ⟨b, o, none⟩ = some v :=
  (World.cell?_of_block (w := X) (a := ⟨b, o, none⟩) (hg.block b (World.block_lt_of_cell? _ _ hc) (fun e => by have := hr b e.symm; omega))).trans hc
theorem AdX.own {N base : Nat} {f : Nat → List Int} {s : St} {p q B n : Nat} {w5 : World} {c : Code} (hp : p < w5.heap.size) (hq : q < w5.heap.size) (hB : B + 1 + 1 < w5.heap.size) : OwnFrom w5.heap.size (fun (pre : List (Ix n)) W => AdX N base f s p q B w5 c pre W) :=
  fun pre W W' row h hg hr => ⟨h.c, (by
    obtain ⟨ini, x, k1, k2, k3, k4⟩ := h.k
    exact ⟨ini, x, k1, k2, k3, cellTurn k4 hg (fun r e => (hr r e).1) hB⟩), cellTurn h.z hg (fun r e => (hr r e).1) (by omega), h.d.turn hg (fun r e => (hr r e).1) hp hq, h.ch.turn hg (fun r e => (hr r e).1)⟩
theorem AdR.toI {N base : Nat} {f : Nat → List Int} {s : St} {p q n : Nat} {w5 : World} {pre : List (Ix n)} {x : Ix n} {W : World} (h : AdR N base f s p q w5 pre x W 0) : AdI N base f s p q w5 (pre ++ [x]) W := ⟨h.ok.snoc h.e, h.d, h.ch⟩
theorem Dk.sets {W : World} {p q n : Nat} {s : St} (h : Dk W p q n s) (b : Nat) (v : Value) (hp : p ≠ b) (hq : q ≠ b) : Dk (W.setCell ⟨b, 0, none⟩ v) p q n s :=
  h.kept (Below.heap_setCell W ⟨b, 0, none⟩ v p hp) (Below.heap_setCell W ⟨b, 0, none⟩ v q hq)
theorem AdR.toX {N base : Nat} {f : Nat → List Int} {s : St} {p q B n : Nat} {w5 : World} {pre : List (Ix n)} {x : Ix n} {W : World} {v : Int} (h : AdR N base f s p q w5 pre x W v) (hv : v ≠ 0) (hp : p < B) (hq : q < B) {t1 t2 : TypeId} (b1 : Boxed W (B + 1) t1 (.int .i64 0)) (b2 : Boxed W (B + 1 + 1) t2 (.int .i64 0)) :
    AdX N base f s p q B w5 Code.ret (pre ++ [x]) ((W.setCell ⟨B + 1, 0, none⟩ (.int .i64 0)).setCell ⟨B + 1 + 1, 0, none⟩ (.int .i64 v)) := by
  have c1 := b1.cell
  have c2 := b2.cell
  have d2 : (W.setCell ⟨B + 1, 0, none⟩ (.int .i64 0)).cell? ⟨B + 1 + 1, 0, none⟩ = some (.int .i64 0) := by
    rw [World.cell?_of_block (w := W) (a := ⟨B + 1 + 1, 0, none⟩) (Below.heap_setCell W ⟨B + 1, 0, none⟩ _ _ (by simp))]; exact c2
  refine ⟨rfl, ⟨pre, x, rfl, h.ok, by rw [h.e]; exact hv, ?_⟩, ?_, (h.d.sets _ _ (by omega) (by omega)).sets _ _ (by omega) (by omega), ((h.ch.mono (by simp)).trans (Ch1.set _ _ _ _ (by simp))).trans (Ch1.set _ _ _ _ (by simp))⟩
  · rw [h.e]; exact World.cell?_setCell_same _ _ _ d2
  · rw [World.cell?_of_block (w := W.setCell ⟨B + 1, 0, none⟩ (.int .i64 0)) (a := ⟨B + 1, 0, none⟩) (Below.heap_setCell _ ⟨B + 1 + 1, 0, none⟩ _ _ (by simp))]
    exact World.cell?_setCell_same _ _ _ c1
theorem keepsSets {B b c : Nat} {X Y : World} (h : KeepsFrom B X Y) (u v : Value) (hb : b < B) (hc : c < B) : KeepsFrom B X ((Y.setCell ⟨b, 0, none⟩ u).setCell ⟨c, 0, none⟩ v) :=
  ⟨by have := h.size; simpa using this, fun k o hk ho hn => by
    rw [Below.heap_setCell _ ⟨c, 0, none⟩ _ _ (by show k ≠ c; omega), Below.heap_setCell _ ⟨b, 0, none⟩ _ _ (by show k ≠ b; omega)]; exact h.same k o hk ho hn⟩
theorem ne_deferred {X : World} {b o D : Nat} {v : Value} {z : Option (List Deferred)} (hc : X.cell? ⟨b, o, none⟩ = some v) (hD : X.heap[D]? = some (.deferred z)) : b ≠ D := fun e => by
  subst e
  simp [World.cell?, hD] at hc
theorem cellPut {X : World} {b o D : Nat} {v : Value} {z : Option (List Deferred)} (hc : X.cell? ⟨b, o, none⟩ = some v) (hD : X.heap[D]? = some (.deferred z)) (ob : Obj) : (X.putObj D ob).cell? ⟨b, o, none⟩ = some v :=
  (World.cell?_of_block (w := X) (a := ⟨b, o, none⟩) (World.putObj_heap_other (ne_deferred hc hD))).trans hc
theorem AddP.fin {w w5 X : World} {pa p q N D : Nat} {v v' : Value} {r : Ans} (bel : Below w.heap.size w w5) (ch : Ch1 ([w.heap.size + 1, w.heap.size + 1 + 1] ++ (p :: q :: pa :: vb v)) w5 X) (d : Dk X p q N r.s) (am : Am X pa p r.a v') (ow : v'.ownBlock = v.ownBlock ∨ ∃ g, v'.ownBlock = some g ∧ w.heap.size ≤ g) (hD : X.heap[D]? = some (.deferred (some []))) (hs : w5.heap.size ≤ D) :
    AddP w pa p q N v r (.returned (.tuple #[.int .i64 r.pos, .int .i64 r.err])) (X.putObj D (.deferred none)) := by
  have nb : ∀ b, b ≠ D → (X.putObj D (.deferred none)).heap[b]? = X.heap[b]? := fun b hb => World.putObj_heap_other hb
  have np : p ≠ D := ne_deferred d.c1 hD
  have nq : q ≠ D := ne_deferred (d.cell (i := 0) (j := 0) d.pos (by decide)) hD
  have na : pa ≠ D := ne_deferred am.c1 hD
  refine ⟨rfl, d.kept (nb p np) (nb q nq), ⟨v', am.kept (nb pa na) (fun g hg => nb g fun e => ?_), ow⟩, ?_⟩
  · rcases am.own.2 with ⟨rfl, h0⟩ | ⟨g', cap, cur, rfl, hb, hg', _⟩
    · simp [Value.ownBlock] at hg
    · have e2 : g' = g := by simpa [Value.ownBlock] using hg
      rw [← e, ← e2, hg'] at hD
      cases hD
  · refine ⟨ch.os.trans bel.os, ch.tape.trans bel.tape, ch.output.trans bel.output, by have := bel.size; have := ch.size; simp; omega, fun k hk hn => ?_⟩
    have := bel.size
    rw [nb k (by omega), ch.block k (by omega) (fun c => ?_), bel.block k hk]
    rcases List.mem_append.1 c with c | c
    · simp at c; omega
    · exact hn c

set_option maxRecDepth 100000 in
set_option maxHeartbeats 8000000 in
theorem Add_good (w : World) (pa p q N : Nat) (s : St) (ar : Ar) (v : Value) (h : Am w pa p ar v) (d : Dk w p q N s) (ok : ArOk N ar) (T : Tab w) (kd : Int) (hk : 0 ≤ kd ∧ kd < 256) (a : Option Addr) (m c : Nat) (bs : List Int) (y : By w a m c bs) (hm : m ≤ 1000) (hl : s.lives = ar.lives) (hf : fsize m ≤ ar.count - used ar.fs) (hw : s.writes ≤ 900000) (sp : pa ≠ p ∧ pa ≠ q) (sv : ∀ g, v.ownBlock = some g → g ≠ p ∧ g ≠ q) :
    Calls Tryd.prog 10 #[.pointer (some ⟨pa, 0, none⟩), .int .u8 kd, .slice a m c] w fun e w' => AddP w pa p q N v (addG N s ar kd bs) e w' := by
  have hm' : ¬ (1000 : Int) < (m : Int) := by omega
  have dl : ((s.lives : Int) != (ar.lives : Int)) = false := by rw [bne_eq_false_iff_eq]; omega
  have H : Hid _ := h
  have D : Hid _ := d
  have OK : Hid _ := ok
  have A3 : Hid _ := add3 w pa
  have DN : Hid _ := done_any _ pa p q N s ar v (H.out.below A3.out.bel) (D.out.below A3.out.bel)
  rw [dl] at DN
  have SZ : Hid _ := fun W => (Size_any m W hm).mono fun e w' ⟨a, b⟩ => (⟨a, b.symm⟩ : e = _ ∧ w' = _)
  have hf' : ¬ ((ar.count - used ar.fs : Nat) : Int) < (fsize m : Int) := by omega
  have HM : Hid (m ≤ 1000) := hm
  have HF : Hid (fsize m ≤ ar.count - used ar.fs) := hf
  have HK : Hid _ := hk
  have HW : Hid (s.writes ≤ 900000) := hw
  have HL : Hid (s.lives = ar.lives) := hl
  have SP : Hid (pa ≠ p ∧ pa ≠ q) := sp
  have SV : Hid (∀ g, v.ownBlock = some g → g ≠ p ∧ g ≠ q) := sv
  have TT : Hid (Tab w) := T
  have Y : Hid _ := y
  have fl : (ar.fs.length : Int) ≤ 4096 := by have := ok.len; omega
  have AL : Hid (bs.length = m) := y.len
  clear h d y dl hl ok hm hf T hk hw sp sv
  refine (callsIn_wide (n := 3)).1 ?_
  refine callsIn_of_wp_marks Tryd.func10 rfl trivial ?_ rfl
  simp only [Tryd.ntmps10, List.size_toArray, List.length_cons, List.length_nil, Nat.reduceAdd, Nat.reduceSub, Array.replicate_succ, Array.replicate_zero, List.push_toArray, List.append_toArray, List.nil_append, List.cons_append]
  refine wpIn_wide.2 ?_
  go_wp2_with fail
  refine Calls.mono DN.out ?_
  rintro e w1 ⟨rfl, k, rfl⟩
  have A4 : Hid _ := A3.out.drewN k
  generalize ((((w.alloc (.cells #[.pointer (some ⟨pa, 0, none⟩)] 27)).alloc (.cells #[.int .i64 0] 3)).alloc (.cells #[.int .i64 0] 24)).drewN k) = w1 at *
  clear A3 DN
  have c0 := A4.out.b0.cell
  have RM : Hid _ := fun j => Room_any (w1.drewN j) pa p N ar v ((H.out.below A4.out.bel).drewN j) OK.out
  go_upto_region 5 with fail
  go_quiet (first | (go_at_call 13; exact Calls.quiet_of_same (SZ.out _)) | (go_at_call 27; exact Calls.quiet_of (RM.out _)))
  have A5 : Hid _ := A4.out.drewN nq
  clear c0 RM A4
  generalize w1.drewN nq = w2 at *
  have HA2 : Hid _ := H.out.below A5.out.bel
  have c0 := A5.out.b0.cell
  have c6 := HA2.out.c6
  have pl2 := HA2.out.lt
  go_upto_region 8 with fail
  have B3 : Hid (Below w2.heap.size w2 (w2.alloc (.cells #[.int .i64 (used ar.fs : Nat)] 3))) := allocB _ _
  have A6 : Hid (Add3 w (w2.alloc (.cells #[.int .i64 (used ar.fs : Nat)] 3)) pa) := ⟨boxBelow A5.out.b0 B3.out, boxBelow A5.out.b1 B3.out, boxBelow A5.out.b2 B3.out, nextB A5.out.bel B3.out⟩
  have b8 : Hid (Boxed (w2.alloc (.cells #[.int .i64 (used ar.fs : Nat)] 3)) w2.heap.size 3 (.int .i64 (used ar.fs : Nat))) := Boxed.new _ _ _
  have L8 : Hid (w.heap.size + 1 + 1 < w2.heap.size) := A5.out.b2.lt
  clear c0 c6 pl2 HA2 A5 B3
  generalize w2.alloc (.cells #[.int .i64 (used ar.fs : Nat)] 3) = w3 at *
  generalize w2.heap.size = B8 at *
  have HA3 : Hid _ := H.out.below A6.out.bel
  obtain ⟨sa, scap, rfl, sf1, sf2, -⟩ := HA3.out.form
  have c0 := A6.out.b0.cell
  have c4 := HA3.out.c4
  have c5 := HA3.out.c5
  refine wp_region_noPanic ?_
  refine wp_region_held_drew (S := fun W => W.cell? ⟨w.heap.size, 0, none⟩ = some (.pointer (some ⟨pa, 0, none⟩)) ∧ W.cell? ⟨pa, 4, none⟩ = some (.int .u64 (ar.life : Nat)) ∧ W.cell? ⟨pa, 5, none⟩ = some (.slice sa ar.fs.length scap)) (by kernel_rfl) (⟨c0, c4, c5⟩) (fun hHeld => ?_)
  refine take2 rfl (i := 0) (v := .int .u8 kd) (d := 28) rfl rfl (by kernel_rfl) (by kernel_rfl) (by kernel_rfl) (fun _ _ _ h => h) (Or.inl ⟨by rfl, ?_⟩) (by exact hHeld) ?_
  · intro W hW
    try dsimp only at hW
    go_simp
  try simp only [Act.put, List.setIfInBounds_toArray, List.set_cons_zero, List.set_cons_succ]
  refine take2 rfl (i := 1) (v := .pointer (some ⟨pa, 0, none⟩)) (d := 29) rfl rfl (by kernel_rfl) (by kernel_rfl) (by kernel_rfl) (fun _ _ _ h => h) (Or.inl ⟨by rfl, ?_⟩) (by exact hHeld) ?_
  · intro W hW
    try dsimp only at hW
    obtain ⟨hS0, hS1, hS2⟩ := hW
    go_simp
  try simp only [Act.put, List.setIfInBounds_toArray, List.set_cons_zero, List.set_cons_succ]
  refine take2 rfl (i := 2) (v := .pointer (some ⟨pa, 0, none⟩)) (d := 30) rfl rfl (by kernel_rfl) (by kernel_rfl) (by kernel_rfl) (fun _ _ _ h => h) (Or.inl ⟨by rfl, ?_⟩) (by exact hHeld) ?_
  · intro W hW
    try dsimp only at hW
    go_simp
  try simp only [Act.put, List.setIfInBounds_toArray, List.set_cons_zero, List.set_cons_succ]
  refine take2 rfl (i := 3) (v := .pointer (some ⟨pa, 4, none⟩)) (d := 31) rfl rfl (by kernel_rfl) (by kernel_rfl) (by kernel_rfl) (fun _ _ _ h => h) (Or.inl ⟨by rfl, ?_⟩) (by exact hHeld) ?_
  · intro W hW
    try dsimp only at hW
    go_simp
  try simp only [Act.put, List.setIfInBounds_toArray, List.set_cons_zero, List.set_cons_succ]
  refine take2 rfl (i := 4) (v := .int .u64 (ar.life : Nat)) (d := 32) rfl rfl (by kernel_rfl) (by kernel_rfl) (by kernel_rfl) (fun _ _ _ h => h) (Or.inl ⟨by rfl, ?_⟩) (by exact hHeld) ?_
  · intro W hW
    try dsimp only at hW
    obtain ⟨hS0, hS1, hS2⟩ := hW
    go_simp
  try simp only [Act.put, List.setIfInBounds_toArray, List.set_cons_zero, List.set_cons_succ]
  refine take2 rfl (i := 5) (v := .pointer (some ⟨pa, 0, none⟩)) (d := 33) rfl rfl (by kernel_rfl) (by kernel_rfl) (by kernel_rfl) (fun _ _ _ h => h) (Or.inl ⟨by rfl, ?_⟩) (by exact hHeld) ?_
  · intro W hW
    try dsimp only at hW
    obtain ⟨hS0, hS1, hS2⟩ := hW
    go_simp
  try simp only [Act.put, List.setIfInBounds_toArray, List.set_cons_zero, List.set_cons_succ]
  refine take2 rfl (i := 6) (v := .pointer (some ⟨pa, 0, none⟩)) (d := 34) rfl rfl (by kernel_rfl) (by kernel_rfl) (by kernel_rfl) (fun _ _ _ h => h) (Or.inl ⟨by rfl, ?_⟩) (by exact hHeld) ?_
  · intro W hW
    try dsimp only at hW
    go_simp
  try simp only [Act.put, List.setIfInBounds_toArray, List.set_cons_zero, List.set_cons_succ]
  refine take2 rfl (i := 7) (v := .pointer (some ⟨pa, 5, none⟩)) (d := 35) rfl rfl (by kernel_rfl) (by kernel_rfl) (by kernel_rfl) (fun _ _ _ h => h) (Or.inl ⟨by rfl, ?_⟩) (by exact hHeld) ?_
  · intro W hW
    try dsimp only at hW
    go_simp
  try simp only [Act.put, List.setIfInBounds_toArray, List.set_cons_zero, List.set_cons_succ]
  refine take2 rfl (i := 8) (v := .slice sa ar.fs.length scap) (d := 36) rfl rfl (by kernel_rfl) (by kernel_rfl) (by kernel_rfl) (fun _ _ _ h => h) (Or.inl ⟨by rfl, ?_⟩) (by exact hHeld) ?_
  · intro W hW
    try dsimp only at hW
    obtain ⟨hS0, hS1, hS2⟩ := hW
    go_simp
  try simp only [Act.put, List.setIfInBounds_toArray, List.set_cons_zero, List.set_cons_succ]
  refine take2 rfl (i := 9) (v := .int .i64 (ar.fs.length : Nat)) (d := 37) rfl rfl (by kernel_rfl) (by kernel_rfl) (by kernel_rfl) (fun _ _ _ h => h) (Or.inl ⟨by rfl, ?_⟩) (by exact hHeld) ?_
  · intro W hW
    try dsimp only at hW
    go_simp
  try simp only [Act.put, List.setIfInBounds_toArray, List.set_cons_zero, List.set_cons_succ]
  refine take2 rfl (i := 10) (v := .int .u32 (ar.fs.length : Nat)) (d := 38) rfl rfl (by kernel_rfl) (by kernel_rfl) (by kernel_rfl) (fun _ _ _ h => h) (Or.inl ⟨by rfl, ?_⟩) (by exact hHeld) ?_
  · intro W hW
    try dsimp only at hW
    have hw : IntKind.u32.wrap (ar.fs.length : Int) = (ar.fs.length : Int) := by rw [IntKind.wrap_u32]; omega
    go_simp
  try simp only [Act.put, List.setIfInBounds_toArray, List.set_cons_zero, List.set_cons_succ]
  refine take2 rfl (i := 11) (v := .slice a m c) (d := 39) rfl rfl (by kernel_rfl) (by kernel_rfl) (by kernel_rfl) (fun _ _ _ h => h) (Or.inl ⟨by rfl, ?_⟩) (by exact hHeld) ?_
  · intro W hW
    try dsimp only at hW
    go_simp
  try simp only [Act.put, List.setIfInBounds_toArray, List.set_cons_zero, List.set_cons_succ]
  refine take2 rfl (i := 12) (v := .agg #[.int .u8 kd, .int .u64 (ar.life : Nat), .int .u32 (ar.fs.length : Nat), .slice a m c]) (d := 40) rfl rfl (by kernel_rfl) (by kernel_rfl) (by kernel_rfl) (fun _ _ _ h => h) (Or.inl ⟨by rfl, ?_⟩) (by exact hHeld) ?_
  · intro W hW
    try dsimp only at hW
    go_simp
  try simp only [Act.put, List.setIfInBounds_toArray, List.set_cons_zero, List.set_cons_succ]
  refine wpAnyH_ready (rs := [13]) (by kernel_rfl) (by simp) ?_
  refine cons2 rfl rfl (fun K hK => ?_)
  go_simp
  refine Calls.mono (encode_any kd ar.life ar.fs.length a m c bs w3.drew (TT.out.next (A6.out.bel.drew)) (Y.out.below (A6.out.bel.drew)) HM.out HK.out OK.out.lif (by have := OK.out.len; omega)) ?_
  rintro e w4 ⟨b, cap, rfl, sl⟩
  have SL : Hid (SlE w3.drew w4 b (fsize m) cap (fsec kd ar.life ar.fs.length bs)) := sl
  have B4 : Hid (Below w3.heap.size w3 w4) := nextB ((Below.refl _ _).drew) sl.bel
  clear sl
  go_wp2_with fail
  refine hK.out _ _ ?_ (fun hX => ?_)
  · exact ⟨(B4.out.cell (p := ⟨w.heap.size, 0, none⟩) (World.block_lt_of_cell? _ _ c0)).trans c0, (B4.out.cell (p := ⟨pa, 4, none⟩) (World.block_lt_of_cell? _ _ c4)).trans c4, (B4.out.cell (p := ⟨pa, 5, none⟩) (World.block_lt_of_cell? _ _ c5)).trans c5⟩
  clear hK K hX
  try simp only [Act.put, List.setIfInBounds_toArray, List.set_cons_zero, List.set_cons_succ]
  clear hHeld
  have hHeld : w4.cell? ⟨w.heap.size, 0, none⟩ = some (.pointer (some ⟨pa, 0, none⟩)) ∧ w4.cell? ⟨pa, 4, none⟩ = some (.int .u64 (ar.life : Nat)) ∧ w4.cell? ⟨pa, 5, none⟩ = some (.slice sa ar.fs.length scap) := ⟨(B4.out.cell (p := ⟨w.heap.size, 0, none⟩) (World.block_lt_of_cell? _ _ c0)).trans c0, (B4.out.cell (p := ⟨pa, 4, none⟩) (World.block_lt_of_cell? _ _ c4)).trans c4, (B4.out.cell (p := ⟨pa, 5, none⟩) (World.block_lt_of_cell? _ _ c5)).trans c5⟩
  refine take2 rfl (i := 14) (v := .slice (some ⟨b, 0, none⟩) (fsize m) cap) (d := 9) rfl rfl (by kernel_rfl) (by kernel_rfl) (by kernel_rfl) (fun _ _ _ h => h) (Or.inl ⟨by rfl, ?_⟩) (by exact hHeld) ?_
  · intro W hW
    try dsimp only at hW
    go_simp
  try simp only [Act.put, List.setIfInBounds_toArray, List.set_cons_zero, List.set_cons_succ]
  refine wpAnyH_done (by kernel_rfl) ?_ _
  refine NoPanic.normal ?_
  clear hHeld c0 c4 c5
  go_wp2_with fail
  refine Calls.mono (backS_any _ _ _ _) ?_
  rintro e w5 ⟨rfl, hw5⟩
  obtain ⟨AF, hAF⟩ := SL.out.fn
  have B5 : Hid (Below w4.heap.size w4 w5) := by rw [← hw5]; exact allocB _ _
  have bs5 : Hid (Boxed w5 w4.heap.size 57 (.slice (some ⟨b, 0, none⟩) (fsize m) cap)) := by rw [← hw5]; exact Boxed.new _ _ _
  have BL : Hid (b < w4.heap.size ∧ w3.heap.size ≤ b) := ⟨SL.out.lt, SL.out.lo⟩
  have B35 : Hid (Below w3.heap.size w3 w5) := nextB B4.out B5.out
  have A7 : Hid (Add3 w w5 pa) := ⟨boxBelow A6.out.b0 B35.out, boxBelow A6.out.b1 B35.out, boxBelow A6.out.b2 B35.out, nextB A6.out.bel B35.out⟩
  have b85 : Hid (Boxed w5 B8 3 (.int .i64 (used ar.fs : Nat))) := boxBelow b8.out B35.out
  have HA5 : Hid _ := H.out.below A7.out.bel
  have D5 : Hid _ := D.out.below A7.out.bel
  have PQ : Hid (p < w.heap.size ∧ q < w.heap.size) := ⟨D.out.ltp, D.out.ltq⟩
  have SC : Hid (∀ j, j < fsize m → w5.cell? ⟨b, j, none⟩ = some (svOf (AF j)) ∧ By w5 (AF j).1 (AF j).2.1 (AF j).2.2 (fsec kd ar.life ar.fs.length bs j) ∧ (∀ x, (AF j).1 = some x → w3.heap.size ≤ x.block)) := fun j hj => by
    obtain ⟨h1, h2, h3⟩ := hAF j hj
    exact ⟨(B5.out.cell (p := ⟨b, j, none⟩) BL.out.1).trans h1, h2.below B5.out, h3⟩
  have L35 : Hid (w.heap.size + 1 + 1 < w3.heap.size ∧ B8 < w3.heap.size ∧ w3.heap.size ≤ w4.heap.size ∧ w4.heap.size < w5.heap.size) := ⟨A6.out.b2.lt, b8.out.lt, B4.out.size, by rw [← hw5]; simp⟩
  have PAL : Hid (pa < w.heap.size) := H.out.lt
  generalize w4.heap.size = Bs at *
  clear hw5 hAF SL B4 B5 B35 A6 b8 HA3
  go_wp2_with fail
  refine (wpIn_wide (n := 3)).1 ?_
  refine wpIn_rangeFunc_ownG rfl (by decide) (gf := 54) (lb := #[.pointer (some ⟨Bs, 0, none⟩)]) rfl trivial (enters_of Tryd.func54 (by kernel_rfl) rfl)
    (backS_stops (3 - 1) (by decide) Bs b (fsize m) cap AF (by have := fsize_le HM.out; omega) w5 (by have := L35.out; omega) (by have := L35.out; have := BL.out; omega) bs5.out.cell (fun j hj => (SC.out j hj).1)) Keep2.trans (Keep2.put (by have := L35.out; omega) (by have := L35.out; have := BL.out; omega)) (Below.refl _ _) (fun _ => rfl)
    (fun pre W => AdI N (ar.first + used ar.fs) (fsec kd ar.life ar.fs.length bs) s p q w5 pre W)
    (fun c pre W => AdX N (ar.first + used ar.fs) (fsec kd ar.life ar.fs.length bs) s p q w.heap.size w5 c pre W)
    (AdI.own D5.out.ltp D5.out.ltq)
    (fun c => AdX.own D5.out.ltp D5.out.ltq (by have := L35.out; omega))
    ⟨allOk.nil, D5.out, Ch1.refl _ _⟩
    (fun x => { tmps := #[.pointer (some ⟨pa, 0, none⟩), .int .u8 kd, .slice a m c, .pointer (some ⟨w.heap.size, 0, none⟩), undef, undef, .pointer (some ⟨w.heap.size + 1, 0, none⟩), .pointer (some ⟨w.heap.size + 1 + 1, 0, none⟩), .pointer (some ⟨B8, 0, none⟩), .slice (some ⟨b, 0, none⟩) (fsize m) cap, .int .i64 (x.1 : Nat), .slice (AF x.1).1 (AF x.1).2.1 (AF x.1).2.2, undef, .slice a m c, .int .i64 (m : Nat), .bool false, .pointer (some ⟨pa, 0, none⟩), .bool false, .slice a m c, .int .i64 (m : Nat), .int .i64 (fsize m : Nat), .pointer (some ⟨pa, 0, none⟩), .int .i64 ((ar.count - used ar.fs : Nat) : Nat), .bool false, .pointer (some ⟨pa, 0, none⟩), .pointer (some ⟨pa, 0, none⟩), .pointer (some ⟨pa, 6, none⟩), .int .i64 (used ar.fs : Nat), .int .u8 kd, .pointer (some ⟨pa, 0, none⟩), .pointer (some ⟨pa, 0, none⟩), .pointer (some ⟨pa, 4, none⟩), .int .u64 (ar.life : Nat), .pointer (some ⟨pa, 0, none⟩), .pointer (some ⟨pa, 0, none⟩), .pointer (some ⟨pa, 5, none⟩), .slice sa ar.fs.length scap, .int .i64 (ar.fs.length : Nat), .int .u32 (ar.fs.length : Nat), .slice a m c, .agg #[.int .u8 kd, .int .u64 (ar.life : Nat), .int .u32 (ar.fs.length : Nat), .slice a m c], .slice (some ⟨b, 0, none⟩) (fsize m) cap, .slice (some ⟨b, 0, none⟩) (fsize m) cap, .func (.func 54) #[] #[.pointer (some ⟨Bs, 0, none⟩)], .int .i64 (x.1 : Nat), .slice (AF x.1).1 (AF x.1).2.1 (AF x.1).2.2, undef, undef, undef, undef, undef, undef, undef, undef, undef, undef, undef, undef, undef, undef, undef, undef, undef, undef, undef, undef, undef, undef], defers := [] }) ?assign ?body ?done ?stop
  case assign =>
    intro l x W K hK
    dsimp only [encS, svOf]
    gi_wp2
    exact hK
  case body =>
    rintro l pre x W IP plt
    have AI : Hid _ := IP
    have XS : Hid _ := SC.out x.1 x.2
    have YX : Hid (By W (AF x.1).1 (AF x.1).2.1 (AF x.1).2.2 (fsec kd ar.life ar.fs.length bs x.1)) := XS.out.2.1.kept fun hm z hz => AI.out.ch.block z.block (XS.out.2.1.old hm z hz) (by have := XS.out.2.2 z hz; have := L35.out; have := PQ.out; simp; omega)
    have NX : Hid (∀ z, (AF x.1).1 = some z → z.block ≠ p ∧ z.block ≠ q) := fun z hz => by have := XS.out.2.2 z hz; have := L35.out; have := PQ.out; omega
    have x17 : (x.1 : Int) ≤ 17 := by have := x.2; have := fsize_le HM.out; omega
    have P17 : Hid (pre.length ≤ 17) := by show _ ≤ _; have := fsize_le HM.out; omega
    have fu : (ar.first : Int) + (used ar.fs : Int) ≤ 4096 := by have := OK.out.fit; have := OK.out.far; have := OK.out.big; omega
    have e0 : W.cell? ⟨w.heap.size, 0, none⟩ = some (.pointer (some ⟨pa, 0, none⟩)) := AI.out.ch.cell A7.out.b0.cell (by have := PQ.out; simp; omega)
    have e1 : W.cell? ⟨pa, 0, none⟩ = some (.pointer (some ⟨p, 0, none⟩)) := AI.out.ch.cell HA5.out.c0 (by have := SP.out; simp; omega)
    have e2 : W.cell? ⟨pa, 2, none⟩ = some (.int .i64 (ar.first : Nat)) := AI.out.ch.cell HA5.out.c2 (by have := SP.out; simp; omega)
    have e3 : W.cell? ⟨B8, 0, none⟩ = some (.int .i64 (used ar.fs : Nat)) := AI.out.ch.cell b85.out.cell (by have := L8.out; have := PQ.out; simp; omega)
    clear IP plt XS
    gi_wp2
    refine region_round (S := fun W => W.cell? ⟨w.heap.size, 0, none⟩ = some (.pointer (some ⟨pa, 0, none⟩)) ∧ W.cell? ⟨pa, 0, none⟩ = some (.pointer (some ⟨p, 0, none⟩)) ∧ W.cell? ⟨pa, 2, none⟩ = some (.int .i64 (ar.first : Nat)) ∧ W.cell? ⟨B8, 0, none⟩ = some (.int .i64 (used ar.fs : Nat))) (by kernel_rfl) (fun ⟨_, _, h⟩ => h) (by kernel_rfl) ⟨e0, e1, e2, e3⟩ (fun hHeld => ?_)
    refine take2 rfl (i := 0) (v := .pointer (some ⟨pa, 0, none⟩)) (d := 46) rfl rfl (by kernel_rfl) (by kernel_rfl) (by kernel_rfl) (fun _ _ _ h => h) (Or.inl ⟨by rfl, ?_⟩) (by exact hHeld) ?_
    · intro W hW
      try dsimp only at hW
      obtain ⟨hS0, hS1, hS2, hS3⟩ := hW
      go_simp
    try simp only [Act.put, List.setIfInBounds_toArray, List.set_cons_zero, List.set_cons_succ]
    refine take2 rfl (i := 1) (v := .pointer (some ⟨pa, 0, none⟩)) (d := 47) rfl rfl (by kernel_rfl) (by kernel_rfl) (by kernel_rfl) (fun _ _ _ h => h) (Or.inl ⟨by rfl, ?_⟩) (by exact hHeld) ?_
    · intro W hW
      try dsimp only at hW
      go_simp
    try simp only [Act.put, List.setIfInBounds_toArray, List.set_cons_zero, List.set_cons_succ]
    refine take2 rfl (i := 2) (v := .pointer (some ⟨pa, 0, none⟩)) (d := 48) rfl rfl (by kernel_rfl) (by kernel_rfl) (by kernel_rfl) (fun _ _ _ h => h) (Or.inl ⟨by rfl, ?_⟩) (by exact hHeld) ?_
    · intro W hW
      try dsimp only at hW
      go_simp
    try simp only [Act.put, List.setIfInBounds_toArray, List.set_cons_zero, List.set_cons_succ]
    refine take2 rfl (i := 3) (v := .pointer (some ⟨p, 0, none⟩)) (d := 49) rfl rfl (by kernel_rfl) (by kernel_rfl) (by kernel_rfl) (fun _ _ _ h => h) (Or.inl ⟨by rfl, ?_⟩) (by exact hHeld) ?_
    · intro W hW
      try dsimp only at hW
      obtain ⟨hS0, hS1, hS2, hS3⟩ := hW
      go_simp
    try simp only [Act.put, List.setIfInBounds_toArray, List.set_cons_zero, List.set_cons_succ]
    refine take2 rfl (i := 4) (v := .pointer (some ⟨pa, 0, none⟩)) (d := 50) rfl rfl (by kernel_rfl) (by kernel_rfl) (by kernel_rfl) (fun _ _ _ h => h) (Or.inl ⟨by rfl, ?_⟩) (by exact hHeld) ?_
    · intro W hW
      try dsimp only at hW
      obtain ⟨hS0, hS1, hS2, hS3⟩ := hW
      go_simp
    try simp only [Act.put, List.setIfInBounds_toArray, List.set_cons_zero, List.set_cons_succ]
    refine take2 rfl (i := 5) (v := .pointer (some ⟨pa, 0, none⟩)) (d := 51) rfl rfl (by kernel_rfl) (by kernel_rfl) (by kernel_rfl) (fun _ _ _ h => h) (Or.inl ⟨by rfl, ?_⟩) (by exact hHeld) ?_
    · intro W hW
      try dsimp only at hW
      go_simp
    try simp only [Act.put, List.setIfInBounds_toArray, List.set_cons_zero, List.set_cons_succ]
    refine take2 rfl (i := 6) (v := .pointer (some ⟨pa, 2, none⟩)) (d := 52) rfl rfl (by kernel_rfl) (by kernel_rfl) (by kernel_rfl) (fun _ _ _ h => h) (Or.inl ⟨by rfl, ?_⟩) (by exact hHeld) ?_
    · intro W hW
      try dsimp only at hW
      go_simp
    try simp only [Act.put, List.setIfInBounds_toArray, List.set_cons_zero, List.set_cons_succ]
    refine take2 rfl (i := 7) (v := .int .i64 (ar.first : Nat)) (d := 53) rfl rfl (by kernel_rfl) (by kernel_rfl) (by kernel_rfl) (fun _ _ _ h => h) (Or.inl ⟨by rfl, ?_⟩) (by exact hHeld) ?_
    · intro W hW
      try dsimp only at hW
      obtain ⟨hS0, hS1, hS2, hS3⟩ := hW
      go_simp
    try simp only [Act.put, List.setIfInBounds_toArray, List.set_cons_zero, List.set_cons_succ]
    refine take2 rfl (i := 8) (v := .int .i64 (used ar.fs : Nat)) (d := 54) rfl rfl (by kernel_rfl) (by kernel_rfl) (by kernel_rfl) (fun _ _ _ h => h) (Or.inl ⟨by rfl, ?_⟩) (by exact hHeld) ?_
    · intro W hW
      try dsimp only at hW
      obtain ⟨hS0, hS1, hS2, hS3⟩ := hW
      go_simp
    try simp only [Act.put, List.setIfInBounds_toArray, List.set_cons_zero, List.set_cons_succ]
    refine take2 rfl (i := 9) (v := .int .i64 ((ar.first : Int) + (used ar.fs : Int))) (d := 55) rfl rfl (by kernel_rfl) (by kernel_rfl) (by kernel_rfl) (fun _ _ _ h => h) (Or.inl ⟨by rfl, ?_⟩) (by exact hHeld) ?_
    · intro W hW
      try dsimp only at hW
      have hw : IntKind.i64.wrap ((ar.first : Int) + (used ar.fs : Int)) = (ar.first : Int) + (used ar.fs : Int) := by rw [IntKind.wrap_i64]; omega
      go_simp
    try simp only [Act.put, List.setIfInBounds_toArray, List.set_cons_zero, List.set_cons_succ]
    refine take2 rfl (i := 10) (v := .int .i64 (x.1 : Nat)) (d := 56) rfl rfl (by kernel_rfl) (by kernel_rfl) (by kernel_rfl) (fun _ _ _ h => h) (Or.inl ⟨by rfl, ?_⟩) (by exact hHeld) ?_
    · intro W hW
      try dsimp only at hW
      go_simp
    try simp only [Act.put, List.setIfInBounds_toArray, List.set_cons_zero, List.set_cons_succ]
    refine take2 rfl (i := 11) (v := .int .i64 ((ar.first : Int) + (used ar.fs : Int) + (x.1 : Int))) (d := 57) rfl rfl (by kernel_rfl) (by kernel_rfl) (by kernel_rfl) (fun _ _ _ h => h) (Or.inl ⟨by rfl, ?_⟩) (by exact hHeld) ?_
    · intro W hW
      try dsimp only at hW
      have hw : IntKind.i64.wrap ((ar.first : Int) + (used ar.fs : Int) + (x.1 : Int)) = (ar.first : Int) + (used ar.fs : Int) + (x.1 : Int) := by rw [IntKind.wrap_i64]; omega
      go_simp
    try simp only [Act.put, List.setIfInBounds_toArray, List.set_cons_zero, List.set_cons_succ]
    refine take2 rfl (i := 12) (v := .slice (AF x.1).1 (AF x.1).2.1 (AF x.1).2.2) (d := 58) rfl rfl (by kernel_rfl) (by kernel_rfl) (by kernel_rfl) (fun _ _ _ h => h) (Or.inl ⟨by rfl, ?_⟩) (by exact hHeld) ?_
    · intro W hW
      try dsimp only at hW
      go_simp
    try simp only [Act.put, List.setIfInBounds_toArray, List.set_cons_zero, List.set_cons_succ]
    refine wpAnyH_ready (rs := [13]) (by kernel_rfl) (by simp) ?_
    refine cons2 rfl rfl (fun K hK => ?_)
    go_simp
    refine Calls.mono (Write_any p q N (wfold N (ar.first + used ar.fs) (fsec kd ar.life ar.fs.length bs) pre s) _ (AF x.1).1 (AF x.1).2.1 (AF x.1).2.2 (fsec kd ar.life ar.fs.length bs x.1) W.drew (AI.out.d.below ((Below.refl _ _).drew)) (YX.out.below ((Below.refl _ _).drew)) (fun _ => NX.out) (by have := (wfold_wr (N := N) (base := (ar.first + used ar.fs)) (f := (fsec kd ar.life ar.fs.length bs)) pre s).1; have := HW.out; have := P17.out; omega)) ?_
    rintro e W2 ⟨rfl, d2, g2⟩
    have EB : Hid ((ar.first : Int) + (used ar.fs : Int) + (x.1 : Int) = (((ar.first + used ar.fs) + x.1 : Nat) : Int)) := by show _ = _; omega
    rw [EB.out] at d2
    rw [EB.out]
    have WW : Hid (∀ v, wE N (wfold N (ar.first + used ar.fs) (fsec kd ar.life ar.fs.length bs) pre s) (((ar.first + used ar.fs) + x.1 : Nat) : Int) ((fsec kd ar.life ar.fs.length bs) x.1) = v → AdR N (ar.first + used ar.fs) (fsec kd ar.life ar.fs.length bs) s p q w5 pre x W2 v) := fun v hv => ⟨AI.out.ok, hv, (by rw [wfold_snoc]; exact d2), AI.out.ch.trans (Ch1.of_gr ⟨g2.os, g2.tape, g2.output, g2.size, g2.block⟩)⟩
    have KF : Hid (KeepsFrom w5.heap.size W W2) := ⟨g2.size, fun k o hk ho hc => by
      rw [g2.block k (Array.getElem?_eq_some_iff.1 ho).1 (by have := PQ.out; have := L35.out; omega) (by have := PQ.out; have := L35.out; omega)]; exact ho⟩
    have K2 : Hid (Keep2 Bs b W W2) := ⟨g2.block Bs (by have := AI.out.ch.size; have := L35.out; show _ < W.heap.size; omega) (by have := PQ.out; have := L35.out; omega) (by have := PQ.out; have := L35.out; omega), g2.block b (by have := AI.out.ch.size; have := L35.out; have := BL.out; show _ < W.heap.size; omega) (by have := PQ.out; have := L35.out; have := BL.out; omega) (by have := PQ.out; have := L35.out; have := BL.out; omega)⟩
    have f0 : W2.cell? ⟨w.heap.size, 0, none⟩ = some (.pointer (some ⟨pa, 0, none⟩)) := (Ch1.of_gr g2).cell (w := W.drew) e0 (by have := PQ.out; simp; omega)
    have f1 : W2.cell? ⟨pa, 0, none⟩ = some (.pointer (some ⟨p, 0, none⟩)) := (Ch1.of_gr g2).cell (w := W.drew) e1 (by have := SP.out; simp; omega)
    have f2 : W2.cell? ⟨pa, 2, none⟩ = some (.int .i64 (ar.first : Nat)) := (Ch1.of_gr g2).cell (w := W.drew) e2 (by have := SP.out; simp; omega)
    have f3 : W2.cell? ⟨B8, 0, none⟩ = some (.int .i64 (used ar.fs : Nat)) := (Ch1.of_gr g2).cell (w := W.drew) e3 (by have := L8.out; have := PQ.out; simp; omega)
    clear d2 g2 e0 e1 e2 e3 hHeld YX NX AI
    generalize wE N (wfold N (ar.first + used ar.fs) (fsec kd ar.life ar.fs.length bs) pre s) (((ar.first + used ar.fs) + x.1 : Nat) : Int) ((fsec kd ar.life ar.fs.length bs) x.1) = E at *
    have R : Hid _ := WW.out E rfl
    clear WW
    go_wp2_with fail
    refine hK.out _ _ ?_ (fun hX => ?_)
    · exact ⟨f0, f1, f2, f3⟩
    clear hK K hX
    try simp only [Act.put, List.setIfInBounds_toArray, List.set_cons_zero, List.set_cons_succ]
    have hHeld : W2.cell? ⟨w.heap.size, 0, none⟩ = some (.pointer (some ⟨pa, 0, none⟩)) ∧ W2.cell? ⟨pa, 0, none⟩ = some (.pointer (some ⟨p, 0, none⟩)) ∧ W2.cell? ⟨pa, 2, none⟩ = some (.int .i64 (ar.first : Nat)) ∧ W2.cell? ⟨B8, 0, none⟩ = some (.int .i64 (used ar.fs : Nat)) := ⟨f0, f1, f2, f3⟩
    refine take2 rfl (i := 14) (v := .int .i64 E) (d := 12) rfl rfl (by kernel_rfl) (by kernel_rfl) (by kernel_rfl) (fun _ _ _ h => h) (Or.inl ⟨by rfl, ?_⟩) (by exact hHeld) ?_
    · intro W hW
      try dsimp only at hW
      go_simp
    try simp only [Act.put, List.setIfInBounds_toArray, List.set_cons_zero, List.set_cons_succ]
    refine wpAnyH_done (by kernel_rfl) ?_ _
    clear hHeld f0 f1 f2 f3
    by_cases hE : E = 0
    · subst hE
      gi_wp2
      exact ⟨KF.out, K2.out, R.out.toI⟩
    · have b1 := R.out.ch.boxed A7.out.b1 (by have := PQ.out; simp; omega)
      have b2 := R.out.ch.boxed A7.out.b2 (by have := PQ.out; simp; omega)
      have c1 := b1.cell
      have c2 := b2.cell
      have z1 := b1.frozen
      have z2 := b2.frozen
      gi_wp2
      exact ⟨keepsSets KF.out _ _ (by have := L35.out; omega) (by have := L35.out; omega), R.out.toX hE PQ.out.1 PQ.out.2 b1 b2⟩

  case done =>
    rintro D ys W hD rfl hI hK
    have II : Hid _ := hI
    have DD : Hid (W.heap[D]? = some (.deferred (some []))) := hK
    have DL : Hid (w5.heap.size ≤ D) := hD
    have AW : Hid (Am W pa p ar (.slice sa ar.fs.length scap)) := HA5.out.kept (II.out.ch.block pa HA5.out.lt (by have := SP.out; simp; omega)) (fun g hg => II.out.ch.block g (owns_lt HA5.out.own hg).1 (by have := SV.out g hg; simp; omega))
    have TK : Hid _ := take_any W pa p (fsize m) N ar _ ⟨used ar.fs, kd, bs⟩ AW.out OK.out rfl (by show fsize bs.length = _; rw [AL.out]) (by have := fsize_le HM.out; omega)
    have c0 : W.cell? ⟨w.heap.size, 0, none⟩ = some (.pointer (some ⟨pa, 0, none⟩)) := II.out.ch.cell A7.out.b0.cell (by have := PQ.out; simp; omega)
    clear hI hK hD
    go_wp2_with fail
    refine Calls.mono TK.out ?_
    rintro e W7 ⟨rfl, v7, am7, ch7, ow7⟩
    have VL : Hid (∀ g, g ∈ pa :: vb (.slice sa ar.fs.length scap) → g < w.heap.size ∧ g ≠ p ∧ g ≠ q) := fun g hg => by
      rcases List.mem_cons.1 hg with e | e
      · subst e; have := PAL.out; have := SP.out; omega
      · have := (owns_lt H.out.own (vb_mem.1 e)).1; have := SV.out g (vb_mem.1 e); omega
    have CH : Hid (Ch1 (p :: q :: pa :: vb (.slice sa ar.fs.length scap)) w5 W7) := (II.out.ch.mono (by simp)).trans (ch7.mono (fun x hx => List.mem_cons_of_mem _ (List.mem_cons_of_mem _ hx)))
    have CB : Hid (∀ b, w.heap.size ≤ b → b ∉ p :: q :: pa :: vb (.slice sa ar.fs.length scap)) := fun b hb h => by
      rcases List.mem_cons.1 h with e | h
      · have := PQ.out; omega
      rcases List.mem_cons.1 h with e | h
      · have := PQ.out; omega
      · have := VL.out b h; omega
    have D7 : Hid (Dk W7 p q N (wfold N (ar.first + used ar.fs) (fsec kd ar.life ar.fs.length bs) (backs (fsize m) (fsize m)) s)) := II.out.d.kept (ch7.block p II.out.d.ltp (fun h => (VL.out p h).2.1 rfl)) (ch7.block q II.out.d.ltq (fun h => (VL.out q h).2.2 rfl))
    have K7 : Hid (W7.heap[D]? = some (.deferred (some []))) := (ch7.block D (Array.getElem?_eq_some_iff.1 DD.out).1 (fun h => by have := (VL.out D h).1; have := DL.out; have := L35.out; omega)).trans DD.out
    have A8 : Hid _ := am7
    have O8 : Hid _ := ow7
    have b1 := CH.out.boxed A7.out.b1 (CB.out _ (by omega))
    have b2 := CH.out.boxed A7.out.b2 (CB.out _ (by omega))
    have b8 := CH.out.boxed b85.out (CB.out _ (by have := L8.out; omega))
    have d0 := b8.cell
    have d1 := b1.cell
    have d2 := b2.cell
    have z1 := b1.frozen
    have z2 := b2.frozen
    clear am7 ch7 ow7 TK AW c0
    go_wp2
    have hok := wrs_all II.out.ok
    have E0 : addW N s ar kd bs = (0, wfold N (ar.first + used ar.fs) (fsec kd ar.life ar.fs.length bs) (backs (fsize m) (fsize m)) s) := by unfold addW; rw [AL.out]; exact hok
    rw [addG_good (by rw [AL.out]; exact HM.out) HL.out (by rw [AL.out]; exact HF.out) (by rw [E0]), E0]
    dsimp only
    have X1 : ((W7.setCell ⟨w.heap.size + 1, 0, none⟩ (.int .i64 (used ar.fs : Nat))).setCell ⟨w.heap.size + 1 + 1, 0, none⟩ (.int .i64 0)).cell? ⟨w.heap.size + 1, 0, none⟩ = some (.int .i64 (used ar.fs : Nat)) := by
      rw [World.cell?_of_block (w := W7.setCell ⟨w.heap.size + 1, 0, none⟩ (.int .i64 (used ar.fs : Nat))) (a := ⟨w.heap.size + 1, 0, none⟩) (Below.heap_setCell _ ⟨w.heap.size + 1 + 1, 0, none⟩ _ _ (by simp))]
      exact World.cell?_setCell_same _ _ _ d1
    have X2 : ((W7.setCell ⟨w.heap.size + 1, 0, none⟩ (.int .i64 (used ar.fs : Nat))).setCell ⟨w.heap.size + 1 + 1, 0, none⟩ (.int .i64 0)).cell? ⟨w.heap.size + 1 + 1, 0, none⟩ = some (.int .i64 0) := by
      refine World.cell?_setCell_same _ _ _ (?_ : _ = some (.int .i64 0))
      rw [World.cell?_of_block (w := W7) (a := ⟨w.heap.size + 1 + 1, 0, none⟩) (Below.heap_setCell W7 ⟨w.heap.size + 1, 0, none⟩ _ _ (by simp))]; exact d2
    have XD : ((W7.setCell ⟨w.heap.size + 1, 0, none⟩ (.int .i64 (used ar.fs : Nat))).setCell ⟨w.heap.size + 1 + 1, 0, none⟩ (.int .i64 0)).heap[D]? = some (.deferred (some [])) := by
      have := DL.out; have := L35.out
      rw [Below.heap_setCell _ ⟨w.heap.size + 1 + 1, 0, none⟩ _ _ (by show D ≠ w.heap.size + 1 + 1; omega), Below.heap_setCell _ ⟨w.heap.size + 1, 0, none⟩ _ _ (by show D ≠ w.heap.size + 1; omega)]; exact K7.out
    have Xd := (D7.out.sets (w.heap.size + 1) (.int .i64 (used ar.fs : Nat)) (by have := PQ.out; omega) (by have := PQ.out; omega)).sets (w.heap.size + 1 + 1) (.int .i64 0) (by have := PQ.out; omega) (by have := PQ.out; omega)
    have nv : ∀ g, v7.ownBlock = some g → g ≠ w.heap.size + 1 ∧ g ≠ w.heap.size + 1 + 1 := fun g hg => by
      have := L35.out
      have := II.out.ch.size
      rcases O8.out with e | ⟨g', e, le⟩
      · rw [e] at hg; have := (owns_lt H.out.own hg).1; omega
      · rw [e] at hg; cases hg; omega
    have Xa := (A8.out.kept (w' := W7.setCell ⟨w.heap.size + 1, 0, none⟩ (.int .i64 (used ar.fs : Nat))) (Below.heap_setCell _ ⟨w.heap.size + 1, 0, none⟩ _ _ (by have := PAL.out; show pa ≠ w.heap.size + 1; omega)) (fun g hg => Below.heap_setCell _ ⟨w.heap.size + 1, 0, none⟩ _ _ (nv g hg).1)).kept (w' := (W7.setCell ⟨w.heap.size + 1, 0, none⟩ (.int .i64 (used ar.fs : Nat))).setCell ⟨w.heap.size + 1 + 1, 0, none⟩ (.int .i64 0)) (Below.heap_setCell _ ⟨w.heap.size + 1 + 1, 0, none⟩ _ _ (by have := PAL.out; show pa ≠ w.heap.size + 1 + 1; omega)) (fun g hg => Below.heap_setCell _ ⟨w.heap.size + 1 + 1, 0, none⟩ _ _ (nv g hg).2)
    have Xc : Ch1 ([w.heap.size + 1, w.heap.size + 1 + 1] ++ (p :: q :: pa :: vb (.slice sa ar.fs.length scap))) w5 ((W7.setCell ⟨w.heap.size + 1, 0, none⟩ (.int .i64 (used ar.fs : Nat))).setCell ⟨w.heap.size + 1 + 1, 0, none⟩ (.int .i64 0)) := ((CH.out.mono (fun x hx => List.mem_append_right _ hx)).trans (Ch1.set _ _ _ _ (by simp))).trans (Ch1.set _ _ _ _ (by simp))
    have OW : v7.ownBlock = (Value.slice sa ar.fs.length scap).ownBlock ∨ ∃ g, v7.ownBlock = some g ∧ w.heap.size ≤ g := by
      rcases O8.out with e | ⟨g, e, le⟩
      · exact .inl e
      · exact .inr ⟨g, e, by have := II.out.ch.size; have := L35.out; omega⟩
    generalize ((W7.setCell ⟨w.heap.size + 1, 0, none⟩ (.int .i64 (used ar.fs : Nat))).setCell ⟨w.heap.size + 1 + 1, 0, none⟩ (.int .i64 0)) = X at *
    have P1 := cellPut X1 XD (.deferred none)
    have P2 := cellPut X2 XD (.deferred none)
    refine ⟨by simp, .inl ⟨_, _, rfl, run_takeDeferred XD, ?_⟩⟩
    exact ⟨.tuple #[.int .i64 (used ar.fs : Nat), .int .i64 0], by simp [results, Tryd.results10, go_sem, P1, P2], AddP.fin (r := ⟨_, 0, _, _⟩) A7.out.bel Xc Xd Xa OW XD DL.out⟩
  case stop =>
    rintro D c pre W hD ⟨k, hk, rfl⟩ hX hK
    obtain ⟨rfl, ⟨ini, x, k1, k2, k3, k4⟩, kz, kd', kc⟩ := hX
    refine wpIn_wide.2 ?_
    go_wp2
    have E0 : addW N s ar kd bs = (wE N (wfold N (ar.first + used ar.fs) (fsec kd ar.life ar.fs.length bs) ini s) ((ar.first + used ar.fs + x.1 : Nat) : Int) (fsec kd ar.life ar.fs.length bs x.1), wfold N (ar.first + used ar.fs) (fsec kd ar.life ar.fs.length bs) (backs (fsize m) k) s) := by unfold addW; rw [AL.out]; exact wrs_cut hk k1 k2 k3
    rw [addG_bad (by rw [AL.out]; exact HM.out) HL.out (by rw [AL.out]; exact HF.out) (by rw [E0]; exact k3), E0]
    dsimp only
    have Xa := HA5.out.kept (w' := W) (kc.block pa HA5.out.lt (by have := SP.out; have := PAL.out; simp; omega)) (fun g hg => kc.block g (owns_lt HA5.out.own hg).1 (by have := SV.out g hg; have := (owns_lt H.out.own hg).1; simp; omega))
    have P1 := cellPut kz hK (.deferred none)
    have P2 := cellPut k4 hK (.deferred none)
    refine ⟨by simp, .inl ⟨_, _, rfl, run_takeDeferred hK, ?_⟩⟩
    exact ⟨.tuple #[.int .i64 0, .int .i64 (wE N (wfold N (ar.first + used ar.fs) (fsec kd ar.life ar.fs.length bs) ini s) ((ar.first + used ar.fs + x.1 : Nat) : Int) (fsec kd ar.life ar.fs.length bs x.1))], by simp [results, Tryd.results10, go_sem, P1, P2], AddP.fin (r := ⟨0, _, _, _⟩) A7.out.bel (kc.mono (by simp)) kd' Xa (.inl rfl) hK hD⟩


end Go.Proofs.YtblmfkdcahhhbaaDoor
