/- What verify's calls keep; programs and instructions in memory; an instruction's name. -/
import Derived.Test.YtjkbiglnpoeddaaDoorCb
import Derived.Deep.Fields
import Derived.Deep.DeepCutAuto
namespace Go.Proofs.YtjkbiglnpoeddaaDoor.Vf
open Go.RowKit
set_option linter.unusedVariables false
set_option linter.unusedSimpArgs false

/-- All is kept but these blocks. -/
structure Kx (bs : List Nat) (w w' : World) : Prop where
  os : w'.os = w.os
  tape : w'.tape = w.tape
  output : w'.output = w.output
  size : w.heap.size ≤ w'.heap.size
  kp : ∀ i, i < w.heap.size → i ∉ bs → w'.heap[i]? = w.heap[i]?
theorem Kx.refl (bs : List Nat) (w : World) : Kx bs w w := ⟨rfl, rfl, rfl, Nat.le_refl _, fun _ _ _ => rfl⟩
theorem Kx.trans {bs : List Nat} {a b c : World} (h : Kx bs a b) (k : Kx bs b c) : Kx bs a c :=
  ⟨k.os.trans h.os, k.tape.trans h.tape, k.output.trans h.output, Nat.le_trans h.size k.size, fun i hi n => (k.kp i (Nat.lt_of_lt_of_le hi h.size) n).trans (h.kp i hi n)⟩
theorem Kx.of {w w' : World} (bs : List Nat) (h : Below w.heap.size w w') : Kx bs w w' := ⟨h.os, h.tape, h.output, h.size, fun i hi _ => h.block i hi⟩
theorem Kx.next {bs : List Nat} {a b c : World} (h : Kx bs a b) (k : Below b.heap.size b c) : Kx bs a c := h.trans (Kx.of bs k)
theorem Kx.sub {bs cs : List Nat} {a b : World} (h : Kx bs a b) (hs : ∀ i, i ∈ bs → i ∈ cs) : Kx cs a b := ⟨h.os, h.tape, h.output, h.size, fun i hi n => h.kp i hi fun m => n (hs i m)⟩
theorem Kx.set {bs : List Nat} {a b : World} (h : Kx bs a b) {p i : Nat} (u : Value) (hp : p ∈ bs) : Kx bs a (b.setCell ⟨p, i, none⟩ u) :=
  h.trans ⟨rfl, rfl, rfl, by simp, fun k _ n => Below.heap_setCell b ⟨p, i, none⟩ u k (fun e => n (by rw [show k = p from e]; exact hp))⟩
theorem Kx.bel {bs : List Nat} {w w' : World} (h : Kx bs w w') {N : Nat} (hN : N ≤ w.heap.size) (hb : ∀ i, i ∈ bs → N ≤ i) : Below N w w' :=
  ⟨h.os, h.tape, h.output, h.size, fun i hi => h.kp i (by omega) fun m => by have := hb i m; omega⟩
theorem Kx.drop {b : Nat} {bs : List Nat} {a c : World} (h : Kx (b :: bs) a c) (hb : a.heap.size ≤ b) : Kx bs a c :=
  ⟨h.os, h.tape, h.output, h.size, fun i hi n => h.kp i hi fun m => by
    rcases List.mem_cons.1 m with e | e
    · omega
    · exact n e⟩
theorem Kx.cell {bs : List Nat} {w w' : World} (h : Kx bs w w') {a : Addr} {u : Value} (hn : a.block ∉ bs) (hc : w.cell? a = some u) : w'.cell? a = some u :=
  (World.cell?_of_block (h.kp a.block (World.block_lt_of_cell? _ _ hc) hn)).trans hc
theorem nxB {w w1 w2 : World} (h1 : Below w.heap.size w w1) (h2 : Below w1.heap.size w1 w2) : Below w.heap.size w w2 := h1.trans (h2.mono h1.size)
theorem Bx.fz2 {w : World} {p : Nat} {T : TypeId} {cs : Array Value} (h : Bx w p T cs) (i : Nat) : w.frozen? ⟨p, i, none⟩ = false := by
  simp [World.frozen?, h.at_]
theorem Bx.kx {bs : List Nat} {w w' : World} {p : Nat} {T : TypeId} {cs : Array Value} (h : Bx w p T cs) (k : Kx bs w w') (hn : p ∉ bs) : Bx w' p T cs :=
  ⟨by rw [k.kp p (Array.getElem?_eq_some_iff.1 h.at_).1 hn]; exact h.at_, h.ty⟩
theorem Bx.lt {w : World} {p : Nat} {T : TypeId} {cs : Array Value} (h : Bx w p T cs) : p < w.heap.size := (Array.getElem?_eq_some_iff.1 h.at_).1

/-- The seven slices of a program. -/
structure S7 where
  a0 : Option Addr
  m0 : Nat
  c0 : Nat
  a1 : Option Addr
  m1 : Nat
  c1 : Nat
  a2 : Option Addr
  m2 : Nat
  c2 : Nat
  a3 : Option Addr
  m3 : Nat
  c3 : Nat
  a4 : Option Addr
  m4 : Nat
  c4 : Nat
  a5 : Option Addr
  m5 : Nat
  c5 : Nat
  a6 : Option Addr
  m6 : Nat
  c6 : Nat
abbrev Ins := Int × Int × Int × Int
/-- A program, plainly. -/
structure Pg where
  cs : List (Int × Int)
  ts : List (Int × Int × List Int × List Int)
  ins : List Int
  outs : List Int
  sl : List Int
  nm : List (List Int)
  co : List Ins
/-- It in memory. -/
structure Pv (w : World) (s : S7) (p : Pg) : Prop where
  k0 : Vw aC 3 w s.a0 s.m0 p.cs
  k1 : Vw aT 4 w s.a1 s.m1 p.ts
  k2 : Vw aI 1 w s.a2 s.m2 p.ins
  k3 : Vw aI 1 w s.a3 s.m3 p.outs
  k4 : Vw aI 1 w s.a4 s.m4 p.sl
  k5 : Vw aS 1 w s.a5 s.m5 p.nm
  k6 : Vw aN 4 w s.a6 s.m6 p.co
theorem Pv.next {w w' : World} {s : S7} {p : Pg} (h : Pv w s p) (b : Below w.heap.size w w') : Pv w' s p :=
  ⟨h.k0.next aC_nx b, h.k1.next aT_nx b, h.k2.next aI_nx b, h.k3.next aI_nx b, h.k4.next aI_nx b, h.k5.next aS_nx b, h.k6.next aN_nx b⟩
def S7.cells (s : S7) : Array Value := #[.slice s.a0 s.m0 s.c0, .slice s.a1 s.m1 s.c1, .slice s.a2 s.m2 s.c2, .slice s.a3 s.m3 s.c3, .slice s.a4 s.m4 s.c4, .slice s.a5 s.m5 s.c5, .slice s.a6 s.m6 s.c6]
def S7.val (s : S7) : Value := .agg #[.slice s.a0 s.m0 s.c0, .slice s.a1 s.m1 s.c1, .slice s.a2 s.m2 s.c2, .slice s.a3 s.m3 s.c3, .slice s.a4 s.m4 s.c4, .slice s.a5 s.m5 s.c5, .slice s.a6 s.m6 s.c6]
def insV (i : Ins) : Value := .agg #[.int .i64 i.1, .int .i64 i.2.1, .int .i64 i.2.2.1, .int .i64 i.2.2.2]
def insC (i : Ins) : Array Value := #[.int .i64 i.1, .int .i64 i.2.1, .int .i64 i.2.2.1, .int .i64 i.2.2.2]
/-- The checker in memory. -/
def ckc (s : S7) (lv : Value) (st sk : Int) : Array Value := #[.slice s.a0 s.m0 s.c0, .slice s.a1 s.m1 s.c1, .slice s.a2 s.m2 s.c2, .slice s.a3 s.m3 s.c3, .slice s.a4 s.m4 s.c4, .slice s.a5 s.m5 s.c5, .slice s.a6 s.m6 s.c6, lv, .int .i64 st, .int .i64 sk]
abbrev Ck (w : World) (c : Nat) (s : S7) (lv : Value) (st sk : Int) : Prop := Bx w c 44 (ckc s lv st sk)
theorem Bx.c4 {w : World} {q : Nat} {i : Ins} (h : Bx w q 37 (insC i)) : w.cell? ⟨q, 0, none⟩ = some (.int .i64 i.1) ∧ w.cell? ⟨q, 1, none⟩ = some (.int .i64 i.2.1) ∧ w.cell? ⟨q, 2, none⟩ = some (.int .i64 i.2.2.1) ∧ w.cell? ⟨q, 3, none⟩ = some (.int .i64 i.2.2.2) :=
  ⟨h.cell 0 _ rfl, h.cell 1 _ rfl, h.cell 2 _ rfl, h.cell 3 _ rfl⟩

def plB (n m : Int) : Bool := decide (0 ≤ n) && decide (n < m)
def kdB (n a b : Int) : Bool := decide (a ≤ n) && decide (n ≤ b)
def atI (l : List Int) (n : Int) : Int := l.getD n.toNat 0
def liB (p : Pg) (n : Int) : Bool := plB n p.ins.length && decide (atI p.ins n = 6)
def paB (p : Pg) (n : Int) : Bool := plB n ((p.sl.length : Int) - 1) && decide (atI p.sl n = 2) && decide (atI p.sl (n + 1) = 3)
/-- Is there what an instruction names? -/
def thB (p : Pg) (i : Ins) : Bool :=
  if i.1 = 0 then plB i.2.1 p.cs.length
  else if i.1 = 1 then plB i.2.1 p.ins.length && !decide (atI p.ins i.2.1 = 6)
  else if i.1 = 2 ∨ i.1 = 3 then plB i.2.1 p.sl.length
  else if i.1 = 4 ∨ i.1 = 5 ∨ i.1 = 10 ∨ i.1 = 11 ∨ i.1 = 13 ∨ i.1 = 14 then kdB i.2.1 2 5
  else if i.1 = 6 ∨ i.1 = 7 ∨ i.1 = 8 then kdB i.2.1 2 4
  else if i.1 = 12 then kdB i.2.1 1 5
  else if i.1 = 15 then liB p i.2.1
  else if i.1 = 16 then plB i.2.1 p.ts.length
  else if i.1 = 19 ∨ i.1 = 20 then liB p i.2.1 && paB p i.2.2.1
  else if i.1 = 21 ∨ i.1 = 22 then plB i.2.1 p.outs.length
  else decide (0 ≤ i.1 ∧ i.1 < 24)

def nmL : List ByteArray := [⟨#[99, 111, 110, 115, 116]⟩, ⟨#[105, 110]⟩, ⟨#[108, 111, 97, 100]⟩, ⟨#[115, 116, 111, 114, 101]⟩, ⟨#[97, 100, 100]⟩, ⟨#[115, 117, 98]⟩, ⟨#[109, 117, 108]⟩, ⟨#[100, 105, 118]⟩, ⟨#[110, 101, 103]⟩, ⟨#[110, 111, 116]⟩, ⟨#[108, 116]⟩, ⟨#[108, 101]⟩, ⟨#[101, 113]⟩, ⟨#[109, 105, 110]⟩, ⟨#[109, 97, 120]⟩, ⟨#[108, 101, 110]⟩, ⟨#[97, 116]⟩, ⟨#[106, 117, 109, 112]⟩, ⟨#[117, 110, 108, 101, 115, 115]⟩, ⟨#[102, 105, 114, 115, 116]⟩, ⟨#[110, 101, 120, 116]⟩, ⟨#[109, 97, 114, 107]⟩, ⟨#[111, 117, 116]⟩, ⟨#[104, 97, 108, 116]⟩]
def nmB : List (List UInt8) := [[99, 111, 110, 115, 116], [105, 110], [108, 111, 97, 100], [115, 116, 111, 114, 101], [97, 100, 100], [115, 117, 98], [109, 117, 108], [100, 105, 118], [110, 101, 103], [110, 111, 116], [108, 116], [108, 101], [101, 113], [109, 105, 110], [109, 97, 120], [108, 101, 110], [97, 116], [106, 117, 109, 112], [117, 110, 108, 101, 115, 115], [102, 105, 114, 115, 116], [110, 101, 120, 116], [109, 97, 114, 107], [111, 117, 116], [104, 97, 108, 116]]
def noL : List Nat := [1, 1, 1, 1, 1, 1, 1, 1, 1, 0, 1, 1, 1, 1, 1, 1, 1, 1, 1, 3, 3, 1, 1, 0]
/-- An instruction's name, and how many operands it has. -/
def opN (op : Int) : ByteArray := if 0 ≤ op ∧ op < 24 then nmL.getD op.toNat ⟨#[]⟩ else ⟨#[]⟩
def opK (op : Int) : Nat := if 0 ≤ op ∧ op < 24 then noL.getD op.toNat 0 else 0
theorem nm_is (op : Int) (k : Nat) (bs : List UInt8) (hb : nmB[k]? = some bs) : ((opN op).toList == bs) = decide (op = (k : Int)) := by
  rw [ByteArray.toList_eq]
  have hk : k < 24 := by
    have := (List.getElem?_eq_some_iff.1 hb).1
    exact this
  have e2 : nmB.getD k [] = bs := by rw [List.getD_eq_getElem?_getD, hb]; rfl
  rw [← e2]
  unfold opN
  split
  · rename_i h
    obtain ⟨i, rfl⟩ : ∃ i : Nat, op = i := ⟨op.toNat, by omega⟩
    have hi : i < 24 := by omega
    rw [Int.toNat_natCast]
    have key : ∀ i : Fin 24, ∀ k : Fin 24, ((nmL.getD i.val ⟨#[]⟩).data.toList == nmB.getD k.val []) = decide (i.val = k.val) := by decide +kernel
    rw [key ⟨i, hi⟩ ⟨k, hk⟩]
    exact decide_eq_decide.2 (by show i = k ↔ _; omega)
  · rename_i h
    have key : ∀ k : Fin 24, (([] : List UInt8) == nmB.getD k.val []) = false := by decide +kernel
    rw [show (⟨#[]⟩ : ByteArray).data.toList = [] from rfl, key ⟨k, hk⟩]
    exact (decide_eq_false (by omega)).symm
theorem nm_none (op : Int) : ((opN op).toList == ([] : List UInt8)) = !decide (0 ≤ op ∧ op < 24) := by
  rw [ByteArray.toList_eq]
  unfold opN
  split
  · rename_i h
    obtain ⟨i, rfl⟩ : ∃ i : Nat, op = i := ⟨op.toNat, by omega⟩
    have hi : i < 24 := by omega
    rw [Int.toNat_natCast]
    have key : ∀ i : Fin 24, ((nmL.getD i.val ⟨#[]⟩).data.toList == ([] : List UInt8)) = false := by decide +kernel
    rw [key ⟨i, hi⟩, decide_eq_true h]
    rfl
  · rename_i h
    rw [decide_eq_false h]
    rfl
/-- The table of instructions lies in its place. -/
def RT (w : World) : Prop := 0 < w.heap.size ∧ ∀ i, i < 24 → w.cell? ⟨0, i * 2, none⟩ = some (.string (nmL.getD i ⟨#[]⟩)) ∧ w.cell? ⟨0, i * 2 + 1, none⟩ = some (.int .i64 ((noL.getD i 0 : Nat) : Int))
theorem RT.next {w w' : World} (h : RT w) (b : Below w.heap.size w w') : RT w' :=
  ⟨Nat.lt_of_lt_of_le h.1 b.size, fun i hi => ⟨celB b (h.2 i hi).1, celB b (h.2 i hi).2⟩⟩
theorem RT.kx {bs : List Nat} {w w' : World} (h : RT w) (b : Kx bs w w') (hn : 0 ∉ bs) : RT w' :=
  ⟨Nat.lt_of_lt_of_le h.1 b.size, fun i hi => ⟨b.cell hn (h.2 i hi).1, b.cell hn (h.2 i hi).2⟩⟩
theorem set2 {w : World} {r : Nat} {x0 x1 : Value} (a b : Value) (h0 : w.cell? ⟨r, 0, none⟩ = some x0) (h1 : w.cell? ⟨r, 1, none⟩ = some x1) :
    ((w.setCell ⟨r, 0, none⟩ a).setCell ⟨r, 1, none⟩ b).cell? ⟨r, 0, none⟩ = some a ∧ ((w.setCell ⟨r, 0, none⟩ a).setCell ⟨r, 1, none⟩ b).cell? ⟨r, 1, none⟩ = some b := by
  have n : ∀ (W : World) (i j : Nat) (v : Value), i ≠ j → (W.setCell ⟨r, i, none⟩ v).cell? ⟨r, j, none⟩ = W.cell? ⟨r, j, none⟩ := fun W i j v h => by
    first | exact World.cell?_setCell_other _ _ _ _ (fun e => h (by injection e)) | exact World.cell?_setCell_other _ _ _ _ (fun e => h (by injection e with _ e; exact e.symm))
  exact ⟨(n _ _ _ _ (by decide)).trans (World.cell?_setCell_same _ _ _ h0), World.cell?_setCell_same _ _ _ ((n _ _ _ _ (by decide)).trans h1)⟩
theorem bl_set2 {w w1 : World} {r : Nat} (b : Below w.heap.size w w1) (hr : r = w.heap.size) (x y : Value) : Below w.heap.size w ((w1.setCell ⟨r, 0, none⟩ x).setCell ⟨r, 1, none⟩ y) :=
  b.grown (grownBy_trans (grownBy_setCell w1 r 0 x) (grownBy_setCell _ r 1 y)) b.size (fun k e => by injection e with e; omega)
set_option maxRecDepth 100000 in
set_option maxHeartbeats 8000000 in
theorem rowOf_any (op : Int) (w : World) (ht : RT w) : Calls Tryd.prog 44 #[.int .i64 op] w fun e w' => e = .returned (.agg #[.string (opN op), .int .i64 ((opK op : Nat) : Int)]) ∧ Below w.heap.size w w' := by
  have X0 := hid (Bx.new w #[.string ⟨#[]⟩, .int .i64 0] 87 (by decide))
  have B0 := hid (allocB w (.cells #[.string ⟨#[]⟩, .int .i64 0] 87))
  have T0 := hid (ht.next B0.out)
  obtain ⟨r, hr⟩ : ∃ r, r = w.heap.size := ⟨_, rfl⟩
  have WR := hid hr
  rw [← hr] at X0
  clear hr ht
  by_cases q : 0 ≤ op ∧ op < 24
  · have e1 : opN op = nmL.getD op.toNat ⟨#[]⟩ := by unfold opN; rw [if_pos q]
    have e2 : opK op = noL.getD op.toNat 0 := by unfold opK; rw [if_pos q]
    rw [e1, e2]
    obtain ⟨i, rfl⟩ : ∃ i : Nat, op = i := ⟨op.toNat, by omega⟩
    have hi : i < 24 := by omega
    simp only [Int.toNat_natCast]
    have TC := hid (T0.out.2 i hi)
    clear q e1 e2 T0
    generalize nmL.getD i ⟨#[]⟩ = nm at *
    generalize noL.getD i 0 = no at *
    have i1 : ¬ ((i : Int) < 0) := by omega
    have i2 : ¬ ((24 : Int) ≤ (i : Int)) := by omega
    go_enter Tryd.func44, Tryd.ntmps44
    go_upto_region 1 with fail
    rw [← WR.out]
    generalize World.alloc w _ = w0 at *
    obtain ⟨t0, t1⟩ := TC.out
    have d0 := X0.out.cell 0 _ rfl
    have d1 := X0.out.cell 1 _ rfl
    have fz := fun i => Bx.fz2 X0.out i
    have S := hid (set2 (.string nm) (.int .i64 (no : Nat)) d0 d1)
    have BF := hid (bl_set2 B0.out WR.out (.string nm) (.int .i64 (no : Nat)))
    go_wp2_with fail
    clear fz d0 d1 t0 t1
    generalize ((w0.setCell ⟨r, 0, none⟩ (.string nm)).setCell ⟨r, 1, none⟩ (.int .i64 (no : Nat))) = wf at *
    obtain ⟨f0, f1⟩ := S.out
    try simp only [Exit.inBlock, Exit.then]
    refine bodyPost_ret (by simp [results, Tryd.results44, go_sem, f0, f1]; try rfl) rfl ?_
    exact ⟨rfl, BF.out⟩
  · have e1 : opN op = ⟨#[]⟩ := by unfold opN; rw [if_neg q]
    have e2 : opK op = 0 := by unfold opK; rw [if_neg q]
    rw [e1, e2]
    clear e1 e2 T0
    go_enter Tryd.func44, Tryd.ntmps44
    go_upto_region 1 with fail
    rw [← WR.out]
    generalize World.alloc w _ = w0 at *
    have d0 := X0.out.cell 0 _ rfl
    have d1 := X0.out.cell 1 _ rfl
    have fz := fun i => Bx.fz2 X0.out i
    have S := hid (set2 (.string ⟨#[]⟩) (.int .i64 0) d0 d1)
    have BF := hid (bl_set2 B0.out WR.out (.string ⟨#[]⟩) (.int .i64 0))
    by_cases q1 : op < 0
    · go_wp2_with fail
      clear fz d0 d1
      generalize ((w0.setCell ⟨r, 0, none⟩ (.string ⟨#[]⟩)).setCell ⟨r, 1, none⟩ (.int .i64 0)) = wf at *
      obtain ⟨f0, f1⟩ := S.out
      try simp only [Exit.inBlock, Exit.then]
      refine bodyPost_ret (by simp [results, Tryd.results44, go_sem, f0, f1]; try rfl) rfl ?_
      exact ⟨rfl, BF.out⟩
    · have q2 : 24 ≤ op := by omega
      go_wp2_with fail
      clear fz d0 d1
      generalize ((w0.setCell ⟨r, 0, none⟩ (.string ⟨#[]⟩)).setCell ⟨r, 1, none⟩ (.int .i64 0)) = wf at *
      obtain ⟨f0, f1⟩ := S.out
      try simp only [Exit.inBlock, Exit.then]
      refine bodyPost_ret (by simp [results, Tryd.results44, go_sem, f0, f1]; try rfl) rfl ?_
      exact ⟨rfl, BF.out⟩
set_option maxRecDepth 100000 in
set_option maxHeartbeats 8000000 in
theorem code_Name_any (op : Int) (w : World) (ht : RT w) : Calls Tryd.prog 21 #[.int .i64 op] w fun e w' => e = .returned (.string (opN op)) ∧ Below w.heap.size w w' := by
  have K := hid (rowOf_any op w ht)
  clear ht
  generalize opN op = nm at *
  generalize opK op = no at *
  have fd : ∀ W : World, (Instr.field 87 (.agg #[.string nm, .int .i64 (no : Nat)]) 0).run Tryd.prog W = .ok (.string nm) W := fun W => by kernel_rfl
  go_enter Tryd.func21, Tryd.ntmps21
  go_wp2_with (go_at_call 44; (with_reducible refine Calls.mono K.out ?_); rintro e w1 ⟨rfl, b1⟩)
  go_ret
  exact ⟨rfl, b1⟩

end Go.Proofs.YtjkbiglnpoeddaaDoor.Vf
