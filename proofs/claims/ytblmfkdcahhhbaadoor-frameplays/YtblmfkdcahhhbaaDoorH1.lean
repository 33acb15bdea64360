/- An area in memory; the walks over package frame: done, Room, Life, Begin, take. -/
import Derived.Test.YtblmfkdcahhhbaaDoorG9
import Derived.Deep.RegionHeld3
namespace Go.Proofs.YtblmfkdcahhhbaaDoor
open Go.RowKit
set_option linter.unusedVariables false
set_option linter.unusedSimpArgs false

/-- What an area keeps to, on a disk of N sectors. -/
structure ArOk (N : Nat) (ar : Ar) : Prop where
  fit : used ar.fs ≤ ar.count
  far : ar.first + ar.count ≤ N
  big : N ≤ 4096
  lif : ar.life < 18446744073709551616
  liv : ar.lives ≤ 1000000
theorem ArOk.len {N : Nat} {ar : Ar} (h : ArOk N ar) : ar.fs.length ≤ 4096 := by have := len_used ar.fs; have := h.fit; have := h.far; have := h.big; omega
/-- An area in memory: its struct at block pa, its disk at block p, v its slice of starts. -/
structure Am (w : World) (pa p : Nat) (ar : Ar) (v : Value) : Prop where
  c0 : w.cell? ⟨pa, 0, none⟩ = some (.pointer (some ⟨p, 0, none⟩))
  c1 : w.cell? ⟨pa, 1, none⟩ = some (.int .i64 (ar.lives : Nat))
  c2 : w.cell? ⟨pa, 2, none⟩ = some (.int .i64 (ar.first : Nat))
  c3 : w.cell? ⟨pa, 3, none⟩ = some (.int .i64 (ar.count : Nat))
  c4 : w.cell? ⟨pa, 4, none⟩ = some (.int .u64 (ar.life : Nat))
  c5 : w.cell? ⟨pa, 5, none⟩ = some v
  c6 : w.cell? ⟨pa, 6, none⟩ = some (.int .i64 (used ar.fs : Nat))
  own : w.ownsRow 0 3 1 v ar.fs.length (ar.fs.map fun f => Value.int .i64 (f.pos : Nat))
  fz : ∀ o, w.frozen? ⟨pa, o, none⟩ = false
  nv : v.ownBlock ≠ some pa
theorem Am.lt {w : World} {pa p : Nat} {ar : Ar} {v : Value} (h : Am w pa p ar v) : pa < w.heap.size := World.block_lt_of_cell? _ _ h.c0
theorem Am.kept {w w' : World} {pa p : Nat} {ar : Ar} {v : Value} (h : Am w pa p ar v) (hp : w'.heap[pa]? = w.heap[pa]?) (hv : ∀ g, v.ownBlock = some g → w'.heap[g]? = w.heap[g]?) : Am w' pa p ar v := by
  have cp : ∀ o, w'.cell? ⟨pa, o, none⟩ = w.cell? ⟨pa, o, none⟩ := fun o => World.cell?_of_block (w := w) (a := ⟨pa, o, none⟩) hp
  refine ⟨by rw [cp]; exact h.c0, by rw [cp]; exact h.c1, by rw [cp]; exact h.c2, by rw [cp]; exact h.c3, by rw [cp]; exact h.c4, by rw [cp]; exact h.c5, by rw [cp]; exact h.c6, ⟨h.own.1, ?_⟩, fun o => ?_, h.nv⟩
  · rcases h.own.2 with hn | ⟨g, cap, cur, rfl, hb, hg, rest⟩
    · exact .inl hn
    · exact .inr ⟨g, cap, cur, rfl, hb, by rw [hv g rfl]; exact hg, rest⟩
  · rw [World.frozen?_of_block (w := w) (a := ⟨pa, o, none⟩) hp]; exact h.fz o
theorem Am.below {w w' : World} {pa p : Nat} {ar : Ar} {v : Value} (h : Am w pa p ar v) (b : Below w.heap.size w w') : Am w' pa p ar v :=
  h.kept (b.block pa h.lt) (fun g hg => b.block g (owns_lt h.own hg).1)
theorem Am.drewN {w : World} {pa p : Nat} {ar : Ar} {v : Value} (h : Am w pa p ar v) (k : Nat) : Am (w.drewN k) pa p ar v := h.kept rfl (fun _ _ => rfl)
/-- The slice of starts, as a value. -/
theorem Am.form {w : World} {pa p : Nat} {ar : Ar} {v : Value} (h : Am w pa p ar v) : ∃ a cap, v = .slice a ar.fs.length cap ∧ ar.fs.length ≤ cap ∧ cap ≤ maxLen ∧ (a = none → cap = 0) ∧ ∃ g, (0 < ar.fs.length → a = some ⟨g, 0, none⟩) ∧ ∀ i, (hi : i < ar.fs.length) → w.cell? ⟨g, i, none⟩ = some (.int .i64 (ar.fs[i].pos : Nat)) := by
  have hh := h.own
  rcases h.own.2 with ⟨rfl, h0⟩ | ⟨g, cap, cur, rfl, hb, hg, hn, hm, hs, ht⟩
  · exact ⟨none, 0, by rw [h0], by omega, Nat.zero_le _, fun _ => rfl, 0, fun p => by omega, fun i hi => by omega⟩
  · refine ⟨_, cap, rfl, hn, hm, (fun e => (by cases e)), g, fun _ => rfl, fun i hi => ?_⟩
    have e := hh.cells (g := g) rfl i (.int .i64 (ar.fs[i].pos : Nat)) (by rw [List.getElem?_map, List.getElem?_eq_getElem hi]; rfl)
    rw [Addr.add_mid, Nat.zero_add] at e
    exact e

theorem done_any (w : World) (pa p q n : Nat) (s : St) (ar : Ar) (v : Value) (h : Am w pa p ar v) (d : Dk w p q n s) :
    Calls Tryd.prog 33 #[.pointer (some ⟨pa, 0, none⟩)] w fun e w' => e = .returned (.bool ((s.lives : Int) != (ar.lives : Int))) ∧ ∃ k, w' = w.drewN k := by
  have c0 := h.c0
  have c1 := h.c1
  have L : Hid _ := fun k => (Lives_any p q n s (w.drewN k) (d.drewN k)).mono fun e w' ⟨a, b⟩ => (⟨a, b.symm⟩ : e = _ ∧ w' = _)
  clear h d
  go_enter Tryd.func33, Tryd.ntmps33
  go_wp2_with fail
  go_quiet ((go_at_call 31; exact Calls.quiet_of_same (L.out _)))
  go_wp2
  go_ret
  exact ⟨rfl, _, rfl⟩
theorem Room_any (w : World) (pa p N : Nat) (ar : Ar) (v : Value) (h : Am w pa p ar v) (ok : ArOk N ar) :
    Calls Tryd.prog 27 #[.pointer (some ⟨pa, 0, none⟩)] w fun e w' => e = .returned (.int .i64 ((ar.count - used ar.fs : Nat) : Nat)) ∧ ∃ k, w' = w.drewN k := by
  have c3 := h.c3
  have c6 := h.c6
  have u1 : (used ar.fs : Int) ≤ (ar.count : Int) := by have := ok.fit; omega
  have u2 : (ar.count : Int) ≤ 4096 := by have := ok.far; have := ok.big; omega
  have E : Hid ((ar.count : Int) - (used ar.fs : Int) = ((ar.count - used ar.fs : Nat) : Int)) := by show _ = _; omega
  clear h ok
  go_enter Tryd.func27, Tryd.ntmps27
  go_wp2_with fail
  go_quiet (fail)
  go_wp2
  go_ret
  exact ⟨ret_int E.out, _, rfl⟩
theorem Life_any (w : World) (pa p : Nat) (ar : Ar) (v : Value) (h : Am w pa p ar v) :
    Calls Tryd.prog 28 #[.pointer (some ⟨pa, 0, none⟩)] w fun e w' => e = .returned (.int .u64 (ar.life : Nat)) ∧ w = w' := by
  have c4 := h.c4
  clear h
  go_enter Tryd.func28, Tryd.ntmps28
  go_wp2
  go_ret
  exact ⟨rfl, rfl⟩

/-- Old blocks but those of a list are as they were. -/
structure Ch1 (S : List Nat) (w w' : World) : Prop where
  os : w'.os = w.os
  tape : w'.tape = w.tape
  output : w'.output = w.output
  size : w.heap.size ≤ w'.heap.size
  block : ∀ k, k < w.heap.size → k ∉ S → w'.heap[k]? = w.heap[k]?
theorem Ch1.refl (S : List Nat) (w : World) : Ch1 S w w := ⟨rfl, rfl, rfl, Nat.le_refl _, fun _ _ _ => rfl⟩
theorem Ch1.of_below {S : List Nat} {w w' : World} (b : Below w.heap.size w w') : Ch1 S w w' := ⟨b.os, b.tape, b.output, b.size, fun k hk _ => b.block k hk⟩
theorem Ch1.of_gr {p q : Nat} {w w' : World} (g : Gr p q w w') : Ch1 [p, q] w w' := ⟨g.os, g.tape, g.output, g.size, fun k hk hn => by simp at hn; exact g.block k hk hn.1 hn.2⟩
theorem Ch1.mono {S T : List Nat} {w w' : World} (h : Ch1 S w w') (hs : ∀ x ∈ S, x ∈ T) : Ch1 T w w' := ⟨h.os, h.tape, h.output, h.size, fun k hk hn => h.block k hk (fun c => hn (hs k c))⟩
theorem Ch1.trans {S : List Nat} {a b c : World} (h : Ch1 S a b) (k : Ch1 S b c) : Ch1 S a c :=
  ⟨k.os.trans h.os, k.tape.trans h.tape, k.output.trans h.output, Nat.le_trans h.size k.size, fun i hi hn => (k.block i (Nat.lt_of_lt_of_le hi h.size) hn).trans (h.block i hi hn)⟩
theorem Ch1.set (S : List Nat) {p : Nat} (w : World) (o : Nat) (v : Value) (h : p ∈ S) : Ch1 S w (w.setCell ⟨p, o, none⟩ v) := ⟨rfl, rfl, rfl, by simp, fun k _ hn => Below.heap_setCell w ⟨p, o, none⟩ v k (fun e => hn (by rw [e]; exact h))⟩
theorem Ch1.grown {S : List Nat} {w w' : World} {row : Option Nat} (g : w.grownBy w' row) (h : ∀ r, row = some r → r ∈ S) : Ch1 S w w' := ⟨g.os, g.tape, g.output, g.size, fun k hk hn => g.block k hk (fun e => hn (h k e.symm))⟩
theorem Ch1.below {S : List Nat} {B : Nat} {W w w' : World} (h : Ch1 S w w') (b : Below B W w) (hB : B ≤ w.heap.size) (hs : ∀ x ∈ S, B ≤ x) : Below B W w' :=
  b.trans ⟨h.os, h.tape, h.output, h.size, fun k hk => h.block k (by omega) (fun c => by have := hs k c; omega)⟩
/-- The block of a slice's row, as a list. -/
def vb (v : Value) : List Nat := v.ownBlock.toList
theorem vb_mem {v : Value} {g : Nat} : g ∈ vb v ↔ v.ownBlock = some g := by unfold vb; cases v.ownBlock <;> simp [eq_comm]

set_option maxHeartbeats 2000000 in
theorem Begin_any (w : World) (pa p l : Nat) (ar : Ar) (v : Value) (h : Am w pa p ar v) :
    Calls Tryd.prog 18 #[.pointer (some ⟨pa, 0, none⟩), .int .u64 (l : Nat)] w fun e w' => e = .returned (.tuple #[]) ∧ Am w' pa p { ar with life := l, fs := [] } (.slice none 0 0) ∧ Ch1 [pa] w w' := by
  have c0 := h.c0
  have c1 := h.c1
  have c2 := h.c2
  have c3 := h.c3
  have c4 := h.c4
  have c5 := h.c5
  have c6 := h.c6
  have f := h.fz
  obtain ⟨a, cap, rfl, -⟩ := h.form
  clear h
  go_enter Tryd.func18, Tryd.ntmps18
  go_wp2
  go_returns
  refine ⟨rfl, ⟨?_, ?_, ?_, ?_, ?_, ?_, ?_, World.ownsRow_nil _ _ _ _, fun o => by simpa using f o, by simp [Value.ownBlock]⟩, ((Ch1.set [pa] _ _ _ (by simp)).trans (Ch1.set [pa] _ _ _ (by simp))).trans (Ch1.set [pa] _ _ _ (by simp))⟩
  · rw [cell_set_ne _ (by decide), cell_set_ne _ (by decide), cell_set_ne _ (by decide)]; exact c0
  · rw [cell_set_ne _ (by decide), cell_set_ne _ (by decide), cell_set_ne _ (by decide)]; exact c1
  · rw [cell_set_ne _ (by decide), cell_set_ne _ (by decide), cell_set_ne _ (by decide)]; exact c2
  · rw [cell_set_ne _ (by decide), cell_set_ne _ (by decide), cell_set_ne _ (by decide)]; exact c3
  · rw [cell_set_ne _ (by decide), cell_set_ne _ (by decide)]; exact World.cell?_setCell_same _ _ _ c4
  · rw [cell_set_ne _ (by decide)]; exact World.cell?_setCell_same _ _ _ (by rw [cell_set_ne _ (by decide)]; exact c5)
  · exact World.cell?_setCell_same _ _ _ (by rw [cell_set_ne _ (by decide), cell_set_ne _ (by decide)]; exact c6)

theorem grownSet (w : World) (p o : Nat) (v : Value) : w.grownBy (w.setCell ⟨p, o, none⟩ v) (some p) :=
  ⟨rfl, rfl, rfl, by simp, fun k _ hk => Below.heap_setCell w ⟨p, o, none⟩ v k (fun e => hk (by rw [e]))⟩
theorem intInfo : (Tryd.prog.info? 3).map (fun i => (i.zero, i.size, i.bytes)) = some (some (.int .i64 0), 1, 8) := by kernel_rfl
/-- One more start is appended and stored, and the sectors are counted. -/
theorem Am.next {w x5 x6 : World} {pa p : Nat} {ar : Ar} {v : Value} {n : Nat} {f : Fa} (h : Am w pa p ar v) (hf : f.pos = used ar.fs) (hn : fsize f.pay.length = n) (b : Below w.heap.size w x5)
    {g6 cap6 : Nat} (o6 : x6.ownsRow 0 3 1 (.slice (some ⟨g6, 0, none⟩) (ar.fs.length + 1) cap6) (ar.fs.length + 1) (ar.fs.map (fun f => Value.int .i64 (f.pos : Nat)) ++ [.int .i64 (used ar.fs : Nat)])) (gr : x5.grownBy x6 v.ownBlock) (hat : v.ownBlock = some g6 ∨ g6 = x5.heap.size) (z : Value) (hz : z = .int .i64 ((used ar.fs + n : Nat) : Nat)) :
    (∀ o, x6.cell? ⟨pa, o, none⟩ = w.cell? ⟨pa, o, none⟩) ∧ (∀ o, x6.frozen? ⟨pa, o, none⟩ = false) ∧
    Am ((x6.setCell ⟨pa, 5, none⟩ (.slice (some ⟨g6, 0, none⟩) (ar.fs.length + 1) cap6)).setCell ⟨pa, 6, none⟩ z) pa p { ar with fs := ar.fs ++ [f] } (.slice (some ⟨g6, 0, none⟩) (ar.fs.length + 1) cap6) ∧ Ch1 (pa :: vb v) w ((x6.setCell ⟨pa, 5, none⟩ (.slice (some ⟨g6, 0, none⟩) (ar.fs.length + 1) cap6)).setCell ⟨pa, 6, none⟩ z) ∧ (v.ownBlock = some g6 ∨ w.heap.size ≤ g6) := by
  have hlt := h.lt
  have hs := b.size
  have hp : x6.heap[pa]? = w.heap[pa]? := by rw [gr.block pa (by omega) (fun e => h.nv e.symm), b.block pa hlt]
  have cp : ∀ o, x6.cell? ⟨pa, o, none⟩ = w.cell? ⟨pa, o, none⟩ := fun o => World.cell?_of_block (w := w) (a := ⟨pa, o, none⟩) hp
  have fp : ∀ o, x6.frozen? ⟨pa, o, none⟩ = false := fun o => by rw [World.frozen?_of_block (w := w) (a := ⟨pa, o, none⟩) hp]; exact h.fz o
  have g6n : g6 ≠ pa := by
    rcases hat with e | e
    · exact fun c => h.nv (by rw [e, c])
    · omega
  refine ⟨cp, fp, ⟨?_, ?_, ?_, ?_, ?_, ?_, ?_, ?_, fun o => by simpa using fp o, ?_⟩, ?_, ?_⟩
  · rw [cell_set_ne _ (by decide), cell_set_ne _ (by decide), cp]; exact h.c0
  · rw [cell_set_ne _ (by decide), cell_set_ne _ (by decide), cp]; exact h.c1
  · rw [cell_set_ne _ (by decide), cell_set_ne _ (by decide), cp]; exact h.c2
  · rw [cell_set_ne _ (by decide), cell_set_ne _ (by decide), cp]; exact h.c3
  · rw [cell_set_ne _ (by decide), cell_set_ne _ (by decide), cp]; exact h.c4
  · rw [cell_set_ne _ (by decide)]; exact World.cell?_setCell_same _ _ _ ((cp 5).trans h.c5)
  · rw [World.cell?_setCell_same _ _ _ (by rw [cell_set_ne _ (by decide), cp]; exact h.c6), hz]
    show _ = some (Value.int .i64 ((used (ar.fs ++ [f]) : Nat) : Int))
    rw [used_snoc, hn]
  · show World.ownsRow _ 0 _ 1 _ (ar.fs ++ [f]).length ((ar.fs ++ [f]).map _)
    rw [List.length_append, List.map_append]
    have e : [f].map (fun f => Value.int .i64 (f.pos : Nat)) = [.int .i64 (used ar.fs : Nat)] := by simp [hf]
    rw [e]
    have nn : Value.ownBlock (.slice (some ⟨g6, 0, none⟩) (ar.fs.length + 1) cap6) ≠ some pa := fun c => g6n (by simpa [Value.ownBlock] using c)
    exact (o6.kept (grownSet x6 pa 5 _) (Or.inr nn)).kept (grownSet _ pa 6 _) (Or.inr nn)
  · exact fun c => g6n (by simpa [Value.ownBlock] using c)
  · refine ((Ch1.of_below b).trans (Ch1.grown gr (fun r e => ?_))).trans ((Ch1.set _ _ _ _ (by simp)).trans (Ch1.set _ _ _ _ (by simp)))
    exact List.mem_cons_of_mem _ (vb_mem.2 e)
  · rcases hat with e | e
    · exact Or.inl e
    · exact Or.inr (by omega)

set_option maxRecDepth 100000 in
set_option maxHeartbeats 4000000 in
theorem take_any (w : World) (pa p n N : Nat) (ar : Ar) (v : Value) (f : Fa) (h : Am w pa p ar v) (ok : ArOk N ar) (hf : f.pos = used ar.fs) (hn : fsize f.pay.length = n) (hn5 : n ≤ 4096) :
    Calls Tryd.prog 36 #[.pointer (some ⟨pa, 0, none⟩), .int .i64 (n : Nat)] w fun e w' => e = .returned (.tuple #[]) ∧ ∃ v', Am w' pa p { ar with fs := ar.fs ++ [f] } v' ∧ Ch1 (pa :: vb v) w w' ∧ (v'.ownBlock = v.ownBlock ∨ ∃ g, v'.ownBlock = some g ∧ w.heap.size ≤ g) := by
  obtain ⟨i0, hi, hz0, hz1, hz2⟩ := info_parts intInfo
  have H : Hid _ := h
  have c5 := h.c5
  have c6 := h.c6
  have f0 := h.fz
  have hl := h.lt
  have LE : Hid (ar.fs.length ≤ 4096) := ok.len
  have u1 : (used ar.fs : Int) ≤ 4096 := by have := ok.fit; have := ok.far; have := ok.big; omega
  have n1 : (n : Int) ≤ 4096 := by omega
  have EZ : Hid ((used ar.fs : Int) + (n : Int) = ((used ar.fs + n : Nat) : Int)) := by show _ = _; omega
  clear h ok
  go_enter Tryd.func36, Tryd.ntmps36
  go_wp2_with fail
  go_region_law (first | (refine step_append_lies _ (by rfl) (.tmp 8) (.tmp 13) 58 (by rfl) 0 3 i0 _ 1 8 Tryd.underlying58 hi hz0 hz1 hz2 rfl (by decide) v ar.fs.length (ar.fs.map (fun f => Value.int .i64 (f.pos : Nat))) (by rfl) (ownsBelow H.out.own ((allocB w (.cells #[.int .i64 (used ar.fs : Nat)] 3)).drew)) ⟨w.heap.size, 0, none⟩ 1 1 [.int .i64 (used ar.fs : Nat)] (by rfl) rfl (World.news_of_block (heap_alloc_last w _)) (fun u hu => by simp at hu; subst hu; rfl) (by decide) (by unfold maxLen; have := LE.out; omega) (by have := LE.out; omega) (Nat.zero_le _) _ rfl ?_; intro g6 cap6 x6 o6 gr6 hat6 _; obtain ⟨k1, k2, k3, k4, k5⟩ := H.out.next hf hn ((allocB w (.cells #[.int .i64 (used ar.fs : Nat)] 3)).drew) o6 gr6 (by simpa using hat6) _ rfl; have NX : Hid _ := And.intro k3 (And.intro k4 k5); have e5 : x6.cell? ⟨pa, 5, none⟩ = some v := (k1 5).trans H.out.c5; have e6 : x6.cell? ⟨pa, 6, none⟩ = some (.int .i64 (used ar.fs : Nat)) := (k1 6).trans H.out.c6; clear o6 gr6 hat6 k1 k3 k4 k5))
  all_goals go_wp2
  all_goals
    go_returns
    rw [EZ.out]
    refine ⟨rfl, _, NX.out.1, NX.out.2.1, ?_⟩
    rcases NX.out.2.2 with e | e
    · exact Or.inl (by rw [e]; rfl)
    · exact Or.inr ⟨g6, rfl, e⟩

end Go.Proofs.YtblmfkdcahhhbaaDoor
