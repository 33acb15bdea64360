/- A disk's state, by plain lists; the disk in memory (its struct at block p, its sectors at block q). -/
import Derived.Test.YtblmfkdcahhhbaaDoorW1
import Derived.Deep.MidRow
namespace Go.Proofs.YtblmfkdcahhhbaaDoor
open Go.RowKit
set_option linter.unusedVariables false
set_option linter.unusedSimpArgs false

/-- What a disk is: its sectors, has it power, how many writes went well, how often the power came, writes till the cut (0: none waits), is the cut late. -/
structure St where
  sec : Nat → List Int
  on : Bool
  writes : Nat
  lives : Nat
  left : Nat
  late : Bool
def zero64 : List Int := List.replicate 64 0
def pad (b : List Int) : List Int := b ++ List.replicate (64 - b.length) 0
def upd (f : Nat → List Int) (i : Nat) (x : List Int) : Nat → List Int := fun k => if k = i then x else f k
def fresh : St := ⟨fun _ => zero64, true, 0, 1, 0, false⟩
def St.put (s : St) (i : Nat) (b : List Int) : St := { s with sec := upd s.sec i (pad b) }
/-- A write that goes well. -/
def St.well (s : St) (i : Nat) (b : List Int) : St := { s.put i b with writes := s.writes + 1 }
def St.cutTo (s : St) (n : Int) (l : Bool) : St := { s with left := n.toNat, late := l }
def St.onAgain (s : St) : St := { s with on := true, left := 0, late := false, lives := s.lives + 1 }
def has (n : Nat) (i : Int) : Bool := decide (0 ≤ i ∧ i < (n : Int))
/-- What Write answers, and what the disk is behind it. -/
def wE (n : Nat) (s : St) (i : Int) (b : List Int) : Int :=
  if has n i = true ∧ b.length ≤ 64 then (if s.on = true ∧ s.left ≠ 1 then 0 else 4) else 1
def wS (n : Nat) (s : St) (i : Int) (b : List Int) : St :=
  if has n i = true ∧ b.length ≤ 64 then
    (if s.on = true then (if s.left = 1 then { (if s.late = true then s.put i.toNat b else s) with on := false, left := 0 } else { s.well i.toNat b with left := s.left - 1 }) else s) else s

theorem pad_len {b : List Int} (h : b.length ≤ 64) : (pad b).length = 64 := by unfold pad; simp; omega
theorem pad_ok {b : List Int} (h : Bys b) : Bys (pad b) := h.app (fun x hx => by have := List.eq_of_mem_replicate hx; omega)
theorem zero_ok : Bys zero64 := fun x hx => by have := List.eq_of_mem_replicate hx; omega
structure St.Ok (s : St) : Prop where
  len : ∀ i, (s.sec i).length = 64
  bys : ∀ i, Bys (s.sec i)
  max : s.left ≤ 9223372036854775807
theorem fresh_ok : fresh.Ok := ⟨fun _ => by simp [fresh, zero64], fun _ => zero_ok, by simp [fresh]⟩
theorem St.Ok.put {s : St} (h : s.Ok) (i : Nat) {b : List Int} (hb : b.length ≤ 64) (hy : Bys b) : (s.put i b).Ok := by
  refine ⟨fun k => ?_, fun k => ?_, h.max⟩
  · show (upd s.sec i (pad b) k).length = 64
    unfold upd; split
    · exact pad_len hb
    · exact h.len k
  · show Bys (upd s.sec i (pad b) k)
    unfold upd; split
    · exact pad_ok hy
    · exact h.bys k
theorem St.Ok.with {s t : St} (h : s.Ok) (e : t.sec = s.sec) (m : t.left ≤ 9223372036854775807) : t.Ok := ⟨fun i => by rw [e]; exact h.len i, fun i => by rw [e]; exact h.bys i, m⟩

/-- Rows of 64, one behind the other. -/
def flat (f : Nat → List Int) : Nat → List Int
  | 0 => []
  | n + 1 => flat f n ++ f n
theorem flat_len {f : Nat → List Int} (h : ∀ i, (f i).length = 64) : ∀ n, (flat f n).length = n * 64
  | 0 => rfl
  | n + 1 => by rw [flat, List.length_append, flat_len h n, h n]; omega
theorem flat_get {f : Nat → List Int} (h : ∀ i, (f i).length = 64) : ∀ n i j, i < n → j < 64 → (flat f n)[i * 64 + j]? = (f i)[j]?
  | n + 1, i, j, hi, hj => by
    have hl := flat_len h n
    rw [flat]
    rcases Nat.lt_or_ge i n with q | q
    · rw [List.getElem?_append_left (by omega)]; exact flat_get h n i j q hj
    · obtain rfl : n = i := by omega
      rw [List.getElem?_append_right (by omega), hl, show n * 64 + j - n * 64 = j by omega]

/-- New memory, and other cells in no old block but p and q. -/
structure Gr (p q : Nat) (w w' : World) : Prop where
  os : w'.os = w.os
  tape : w'.tape = w.tape
  output : w'.output = w.output
  size : w.heap.size ≤ w'.heap.size
  block : ∀ k, k < w.heap.size → k ≠ p → k ≠ q → w'.heap[k]? = w.heap[k]?
theorem Gr.refl (p q : Nat) (w : World) : Gr p q w w := ⟨rfl, rfl, rfl, Nat.le_refl _, fun _ _ _ _ => rfl⟩
theorem Gr.trans {p q : Nat} {a b c : World} (h : Gr p q a b) (k : Gr p q b c) : Gr p q a c :=
  ⟨k.os.trans h.os, k.tape.trans h.tape, k.output.trans h.output, Nat.le_trans h.size k.size, fun i hi h1 h2 => (k.block i (Nat.lt_of_lt_of_le hi h.size) h1 h2).trans (h.block i hi h1 h2)⟩
theorem Gr.set (q : Nat) {p : Nat} (w : World) (o : Nat) (v : Value) : Gr p q w (w.setCell ⟨p, o, none⟩ v) :=
  ⟨rfl, rfl, rfl, by simp, fun k _ hk _ => Below.heap_setCell w ⟨p, o, none⟩ v k hk⟩
theorem Gr.of_below {p q : Nat} {w w' : World} (h : Below w.heap.size w w') : Gr p q w w' := ⟨h.os, h.tape, h.output, h.size, fun k hk _ _ => h.block k hk⟩
theorem Gr.drew {p q : Nat} {w w' : World} (h : Gr p q w w') : Gr p q w w'.drew := ⟨h.os, h.tape, h.output, h.size, h.block⟩
theorem Gr.alloc (p q : Nat) (w : World) (o : Obj) : Gr p q w (w.alloc o) := Gr.of_below ((Below.refl _ _).alloc (Nat.le_refl _) _)
theorem heap_setCells (b : Nat) : ∀ (vs : List Value) (o : Nat) (w : World) (k : Nat), k ≠ b → (w.setCells b o vs).heap[k]? = w.heap[k]?
  | [], _, _, _, _ => rfl
  | v :: r, o, w, k, h => by rw [World.setCells, heap_setCells b r (o + 1) _ k h]; exact Below.heap_setCell w ⟨b, o, none⟩ v k h
theorem size_setCells (b : Nat) : ∀ (vs : List Value) (o : Nat) (w : World), (w.setCells b o vs).heap.size = w.heap.size
  | [], _, _ => rfl
  | v :: r, o, w => by rw [World.setCells, size_setCells b r (o + 1)]; simp
theorem rest_setCells (b : Nat) : ∀ (vs : List Value) (o : Nat) (w : World), (w.setCells b o vs).os = w.os ∧ (w.setCells b o vs).tape = w.tape ∧ (w.setCells b o vs).output = w.output
  | [], _, _ => ⟨rfl, rfl, rfl⟩
  | v :: r, o, w => by rw [World.setCells]; exact rest_setCells b r (o + 1) _
theorem Gr.setCells (p : Nat) {q : Nat} (w : World) (o : Nat) (vs : List Value) : Gr p q w (w.setCells q o vs) :=
  ⟨(rest_setCells q vs o w).1, (rest_setCells q vs o w).2.1, (rest_setCells q vs o w).2.2, Nat.le_of_eq (size_setCells q vs o w).symm, fun k _ _ hk => heap_setCells q vs o w k hk⟩
theorem Below.gr {B p q : Nat} {W w w' : World} (h : Below B W w) (g : Gr p q w w') (hB : B ≤ w.heap.size) (hp : B ≤ p) (hq : B ≤ q) : Below B W w' :=
  h.trans ⟨g.os, g.tape, g.output, g.size, fun k hk => g.block k (by omega) (by omega) (by omega)⟩
theorem By.gr {w w' : World} {a : Option Addr} {n cap p q : Nat} {bs : List Int} (h : By w a n cap bs) (g : Gr p q w w') (hne : 0 < n → ∀ x, a = some x → x.block ≠ p ∧ x.block ≠ q) : By w' a n cap bs :=
  h.kept fun k x hx => g.block x.block (h.old k x hx) (hne k x hx).1 (hne k x hx).2

theorem allocB (w : World) (o : Obj) : Below w.heap.size w (w.alloc o) := (Below.refl _ _).alloc (Nat.le_refl _) _
theorem nextB {a b c : World} (h : Below a.heap.size a b) (k : Below b.heap.size b c) : Below a.heap.size a c := h.trans (k.mono h.size)

/-- The disk in memory. -/
structure Dk (w : World) (p q n : Nat) (s : St) : Prop where
  c0 : ∃ cap, w.cell? ⟨p, 0, none⟩ = some (.slice (some ⟨q, 0, none⟩) n cap) ∧ n ≤ cap ∧ cap ≤ maxLen
  c1 : w.cell? ⟨p, 1, none⟩ = some (.bool s.on)
  c2 : w.cell? ⟨p, 2, none⟩ = some (.int .i64 (s.writes : Nat))
  c3 : w.cell? ⟨p, 3, none⟩ = some (.int .i64 (s.lives : Nat))
  c4 : w.cell? ⟨p, 4, none⟩ = some (.int .i64 (s.left : Nat))
  c5 : w.cell? ⟨p, 5, none⟩ = some (.bool s.late)
  row : ∀ i, i < n → w.rangeAt q (i * 64) ((s.sec i).map (Value.int .u8))
  fp : ∀ o, w.frozen? ⟨p, o, none⟩ = false
  fq : ∀ o, w.frozen? ⟨q, o, none⟩ = false
  ne : p ≠ q
  ok : s.Ok
  pos : 0 < n
theorem Dk.ltp {w : World} {p q n : Nat} {s : St} (h : Dk w p q n s) : p < w.heap.size := World.block_lt_of_cell? _ _ h.c1
theorem Dk.cell {w : World} {p q n : Nat} {s : St} (h : Dk w p q n s) {i j : Nat} (hi : i < n) (hj : j < 64) : w.cell? ⟨q, i * 64 + j, none⟩ = some (.int .u8 ((s.sec i).getD j 0)) := by
  refine h.row i hi j _ ?_
  have := h.ok.len i
  simp [List.getD, List.getElem?_eq_getElem (show j < (s.sec i).length by omega)]
theorem Dk.ltq {w : World} {p q n : Nat} {s : St} (h : Dk w p q n s) : q < w.heap.size := World.block_lt_of_cell? _ _ (h.cell (i := 0) (j := 0) h.pos (by decide))
/-- What happens in other blocks leaves it. -/
theorem Dk.kept {w w' : World} {p q n : Nat} {s : St} (h : Dk w p q n s) (hp : w'.heap[p]? = w.heap[p]?) (hq : w'.heap[q]? = w.heap[q]?) : Dk w' p q n s := by
  have cp : ∀ o, w'.cell? ⟨p, o, none⟩ = w.cell? ⟨p, o, none⟩ := fun o => World.cell?_of_block (w := w) (a := ⟨p, o, none⟩) hp
  have cq : ∀ o, w'.cell? ⟨q, o, none⟩ = w.cell? ⟨q, o, none⟩ := fun o => World.cell?_of_block (w := w) (a := ⟨q, o, none⟩) hq
  refine ⟨by simpa only [cp] using h.c0, by rw [cp]; exact h.c1, by rw [cp]; exact h.c2, by rw [cp]; exact h.c3, by rw [cp]; exact h.c4, by rw [cp]; exact h.c5, fun i hi j v hv => by rw [cq]; exact h.row i hi j v hv, fun o => ?_, fun o => ?_, h.ne, h.ok, h.pos⟩
  · rw [World.frozen?_of_block (w := w) (a := ⟨p, o, none⟩) hp]; exact h.fp o
  · rw [World.frozen?_of_block (w := w) (a := ⟨q, o, none⟩) hq]; exact h.fq o
theorem Dk.gr {w w' : World} {p q n p' q' : Nat} {s : St} (h : Dk w p q n s) (g : Gr p' q' w w') (h1 : p ≠ p') (h2 : p ≠ q') (h3 : q ≠ p') (h4 : q ≠ q') : Dk w' p q n s :=
  h.kept (g.block p h.ltp h1 h2) (g.block q h.ltq h3 h4)
theorem Dk.below {w w' : World} {p q n : Nat} {s : St} (h : Dk w p q n s) (b : Below w.heap.size w w') : Dk w' p q n s := h.kept (b.block p h.ltp) (b.block q h.ltq)
theorem Dk.drewN {w : World} {p q n : Nat} {s : St} (h : Dk w p q n s) (k : Nat) : Dk (w.drewN k) p q n s := h.kept rfl rfl

end Go.Proofs.YtblmfkdcahhhbaaDoor
