/- The reference's area (its struct at block pb); the walk over its read. -/
import Derived.Test.YtblmfkdcahhhbaaDoorL1
import Derived.Test.YtblmfkdcahhhbaaDoorJ1
namespace Go.Proofs.YtblmfkdcahhhbaaDoor
open Go.RowKit
set_option linter.unusedVariables false
set_option linter.unusedSimpArgs false

theorem str_seg (l : List Int) (i j : Nat) : (strOfNums l).extract i j = strOfNums (seg l i (j - i)) := by
  apply ByteArray.ext
  simp [strOfNums, seg, ByteArray.data_extract]
theorem str_inj {a b : List Int} (ha : Bys a) (hb : Bys b) (h : strOfNums a = strOfNums b) : a = b := by
  have hl : a.length = b.length := by rw [← str_size a, ← str_size b, h]
  refine List.ext_getElem hl (fun i h1 h2 => ?_)
  have e1 := str_at ha (i := i) (by rw [str_size]; exact h1)
  have e2 := str_at hb (i := i) (by rw [str_size]; exact h2)
  rw [List.getD_eq_getElem?_getD, List.getElem?_eq_getElem h1, Option.getD_some] at e1
  rw [List.getD_eq_getElem?_getD, List.getElem?_eq_getElem h2, Option.getD_some] at e2
  rw [← e1, ← e2]
  simp only [h]
theorem str_eq {a b : List Int} (ha : Bys a) (hb : Bys b) : ((strOfNums a).toList == (strOfNums b).toList) = decide (a = b) := by
  rw [Bool.eq_iff_iff, beq_iff_eq, decide_eq_true_iff]
  constructor
  · intro e
    rw [ByteArray.toList_eq, ByteArray.toList_eq] at e
    exact str_inj ha hb (ByteArray.ext (Array.toList_inj.1 e))
  · intro e; rw [e]
/-- A frame's three cells. -/
def faC (f : Fa) : List Value := [.int .i64 (f.pos : Nat), .int .u8 f.kind, .string (strOfNums f.pay)]
def faCs : List Fa → List Value
  | [] => []
  | f :: r => faC f ++ faCs r
theorem faCs_snoc (f : Fa) : ∀ l, faCs (l ++ [f]) = faCs l ++ faC f
  | [] => by simp [faCs]
  | g :: r => by rw [List.cons_append, faCs, faCs_snoc f r, faCs, List.append_assoc]
theorem faCs_len : ∀ l : List Fa, (faCs l).length = l.length * 3
  | [] => rfl
  | f :: r => by rw [faCs, List.length_append, faCs_len r, List.length_cons]; simp [faC]; omega
theorem faCs_at : ∀ (l : List Fa) (i : Nat) (h : i < l.length) (j : Nat), j < 3 → (faCs l)[i * 3 + j]? = (faC (l[i]))[j]?
  | [], i, h, _, _ => absurd h (Nat.not_lt_zero _)
  | f :: r, 0, _, j, hj => by
    rw [faCs, Nat.zero_mul, Nat.zero_add, List.getElem?_append_left (by simp [faC]; exact hj)]; rfl
  | f :: r, i + 1, h, j, hj => by
    rw [faCs, List.getElem?_append_right (by simp [faC]; omega)]
    have e : (i + 1) * 3 + j - (faC f).length = i * 3 + j := by simp [faC]; omega
    rw [e, faCs_at r i (by simpa using h) j hj]
    rfl
/-- The reference's area in memory: its struct at block pb, its disk at block p, v its slice of frames. -/
structure Bm (w : World) (pb p : Nat) (ar : Ar) (v : Value) : Prop where
  c0 : w.cell? ⟨pb, 0, none⟩ = some (.pointer (some ⟨p, 0, none⟩))
  c1 : w.cell? ⟨pb, 1, none⟩ = some (.int .i64 (ar.first : Nat))
  c2 : w.cell? ⟨pb, 2, none⟩ = some (.int .i64 (ar.count : Nat))
  c3 : w.cell? ⟨pb, 3, none⟩ = some (.int .u64 (ar.life : Nat))
  c4 : w.cell? ⟨pb, 4, none⟩ = some v
  c5 : w.cell? ⟨pb, 5, none⟩ = some (.int .i64 (ar.lives : Nat))
  own : w.ownsRow 0 89 3 v ar.fs.length (faCs ar.fs)
  fz : ∀ o, w.frozen? ⟨pb, o, none⟩ = false
  nv : v.ownBlock ≠ some pb
theorem Bm.lt {w : World} {pb p : Nat} {ar : Ar} {v : Value} (h : Bm w pb p ar v) : pb < w.heap.size := World.block_lt_of_cell? _ _ h.c0
theorem Bm.kept {w w' : World} {pb p : Nat} {ar : Ar} {v : Value} (h : Bm w pb p ar v) (hp : w'.heap[pb]? = w.heap[pb]?) (hv : ∀ g, v.ownBlock = some g → w'.heap[g]? = w.heap[g]?) : Bm w' pb p ar v := by
  have cp : ∀ o, w'.cell? ⟨pb, o, none⟩ = w.cell? ⟨pb, o, none⟩ := fun o => World.cell?_of_block (w := w) (a := ⟨pb, o, none⟩) hp
  refine ⟨by rw [cp]; exact h.c0, by rw [cp]; exact h.c1, by rw [cp]; exact h.c2, by rw [cp]; exact h.c3, by rw [cp]; exact h.c4, by rw [cp]; exact h.c5, ⟨h.own.1, ?_⟩, fun o => ?_, h.nv⟩
  · rcases h.own.2 with hn | ⟨g, cap, cur, rfl, hb, hg, rest⟩
    · exact .inl hn
    · exact .inr ⟨g, cap, cur, rfl, hb, by rw [hv g rfl]; exact hg, rest⟩
  · rw [World.frozen?_of_block (w := w) (a := ⟨pb, o, none⟩) hp]; exact h.fz o
theorem Bm.below {w w' : World} {pb p : Nat} {ar : Ar} {v : Value} (h : Bm w pb p ar v) (b : Below w.heap.size w w') : Bm w' pb p ar v :=
  h.kept (b.block pb h.lt) (fun g hg => b.block g (owns_lt h.own hg).1)
theorem Bm.drewN {w : World} {pb p : Nat} {ar : Ar} {v : Value} (h : Bm w pb p ar v) (k : Nat) : Bm (w.drewN k) pb p ar v := h.kept rfl (fun _ _ => rfl)
theorem Bm.form {w : World} {pb p : Nat} {ar : Ar} {v : Value} (h : Bm w pb p ar v) : ∃ a cap, v = .slice a ar.fs.length cap ∧ ar.fs.length ≤ cap ∧ cap ≤ maxLen ∧ (a = none → cap = 0) ∧ ∃ g, (0 < ar.fs.length → a = some ⟨g, 0, none⟩) ∧ ∀ i, (hi : i < ar.fs.length) → w.cell? ⟨g, i * 3, none⟩ = some (.int .i64 ((ar.fs[i]).pos : Nat)) ∧ w.cell? ⟨g, i * 3 + 1, none⟩ = some (.int .u8 (ar.fs[i]).kind) ∧ w.cell? ⟨g, i * 3 + 2, none⟩ = some (.string (strOfNums (ar.fs[i]).pay)) := by
  have hh := h.own
  rcases h.own.2 with ⟨rfl, h0⟩ | ⟨g, cap, cur, rfl, hb, hg, hn, hm, hs, ht⟩
  · exact ⟨none, 0, by rw [h0], by omega, Nat.zero_le _, fun _ => rfl, 0, fun p => by omega, fun i hi => by omega⟩
  · refine ⟨_, cap, rfl, hn, hm, (fun e => (by cases e)), g, fun _ => rfl, fun i hi => ?_⟩
    have key : ∀ j, j < 3 → ∀ x, (faC (ar.fs[i]))[j]? = some x → w.cell? ⟨g, i * 3 + j, none⟩ = some x := fun j hj x hx => by
      have e := hh.cells (g := g) rfl (i * 3 + j) x (by rw [faCs_at _ i hi j hj]; exact hx)
      rw [Addr.add_mid, Nat.zero_add] at e
      exact e
    exact ⟨key 0 (by decide) _ rfl, key 1 (by decide) _ rfl, key 2 (by decide) _ rfl⟩

/-- A frame in a block of its own. -/
abbrev Boxed3 (w : World) (b : Nat) (x y z : Value) : Prop := w.heap[b]? = some (.cells #[x, y, z] 89)
theorem Boxed3.cells {w : World} {b : Nat} {x y z : Value} (h : Boxed3 w b x y z) : w.cell? ⟨b, 0, none⟩ = some x ∧ w.cell? ⟨b, 1, none⟩ = some y ∧ w.cell? ⟨b, 2, none⟩ = some z ∧ ∀ o, w.frozen? ⟨b, o, none⟩ = false :=
  ⟨by rw [cell_of_row _ _ _ _ _ _ h]; rfl, by rw [cell_of_row _ _ _ _ _ _ h]; rfl, by rw [cell_of_row _ _ _ _ _ _ h]; rfl, fun o => frozen_of_row _ _ _ _ _ h⟩
theorem set_box3 {w : World} {B : Nat} {a0 a1 a2 v0 v1 v2 : Value} (h0 : w.cell? ⟨B, 0, none⟩ = some a0) (h1 : w.cell? ⟨B, 1, none⟩ = some a1) (h2 : w.cell? ⟨B, 2, none⟩ = some a2) :
    (((w.setCell ⟨B, 0, none⟩ v0).setCell ⟨B, 1, none⟩ v1).setCell ⟨B, 2, none⟩ v2).cell? ⟨B, 0, none⟩ = some v0 ∧
    (((w.setCell ⟨B, 0, none⟩ v0).setCell ⟨B, 1, none⟩ v1).setCell ⟨B, 2, none⟩ v2).cell? ⟨B, 1, none⟩ = some v1 ∧
    (((w.setCell ⟨B, 0, none⟩ v0).setCell ⟨B, 1, none⟩ v1).setCell ⟨B, 2, none⟩ v2).cell? ⟨B, 2, none⟩ = some v2 := by
  refine ⟨?_, ?_, ?_⟩
  · rw [cell_set_ne _ (by decide), cell_set_ne _ (by decide)]; exact World.cell?_setCell_same _ _ _ h0
  · rw [cell_set_ne _ (by decide)]; exact World.cell?_setCell_same _ _ _ (by rw [cell_set_ne _ (by decide)]; exact h1)
  · exact World.cell?_setCell_same _ _ _ (by rw [cell_set_ne _ (by decide), cell_set_ne _ (by decide)]; exact h2)
theorem below3 {w W : World} (b : Below w.heap.size w W) (v0 v1 v2 : Value) : Below w.heap.size w (((W.setCell ⟨w.heap.size, 0, none⟩ v0).setCell ⟨w.heap.size, 1, none⟩ v1).setCell ⟨w.heap.size, 2, none⟩ v2) :=
  ((b.setCell (Nat.le_refl _) _).setCell (Nat.le_refl _) _).setCell (Nat.le_refl _) _
/-- What the reference's read answers. -/
structure BrP (w : World) (at_ : Nat) (r : Option Fr) (e : Ending) (w' : World) : Prop where
  no : r = none → e = .returned (.tuple #[.agg #[.int .i64 0, .int .u8 0, .string ⟨#[]⟩], .int .u64 0, .int .u64 0, .bool false])
  yes : ∀ f, r = some f → e = .returned (.tuple #[.agg #[.int .i64 (at_ : Nat), .int .u8 f.kind, .string (strOfNums f.pay)], .int .u64 (f.life : Nat), .int .u64 (f.num : Nat), .bool true])
  b : Below w.heap.size w w'

set_option maxHeartbeats 1000000 in
theorem Bread_far (w : World) (pb p : Nat) (ar : Ar) (v : Value) (h : Bm w pb p ar v) (at_ : Nat) (ha : ar.count ≤ at_) :
    Calls Tryd.prog 40 #[.pointer (some ⟨pb, 0, none⟩), .int .i64 (at_ : Nat)] w fun e w' => BrP w at_ none e w' := by
  have c2 := h.c2
  have hl := h.lt
  have ha' : (ar.count : Int) ≤ (at_ : Int) := by omega
  clear h
  go_enter Tryd.func40, Tryd.ntmps40
  go_wp2
  refine bodyPost_ret (v := .tuple #[.agg #[.int .i64 0, .int .u8 0, .string ⟨#[]⟩], .int .u64 0, .int .u64 0, .bool false]) (by simp [results, Tryd.results40, go_sem]) rfl ?_
  exact ⟨fun _ => rfl, (fun f e => (by cases e)), allocB _ _⟩

/-- read under way. -/
structure BrI (w wr : World) (pb p q N : Nat) (s : St) (ar : Ar) (v : Value) : Prop where
  bm : Bm wr pb p ar v
  kk : Kk wr p q N s
  bel : Below w.heap.size w wr
  box : Boxed3 wr w.heap.size (.int .i64 0) (.int .u8 0) (.string ⟨#[]⟩)
theorem BrI.below {w wr wx : World} {pb p q N : Nat} {s : St} {ar : Ar} {v : Value} (h : BrI w wr pb p q N s ar v) (b : Below wr.heap.size wr wx) : BrI w wx pb p q N s ar v := ⟨h.bm.below b, h.kk.below b, nextB h.bel b, (b.block _ (Array.getElem?_eq_some_iff.1 h.box).1).trans h.box⟩
theorem BrI.drewN {w wr : World} {pb p q N : Nat} {s : St} {ar : Ar} {v : Value} (h : BrI w wr pb p q N s ar v) (k : Nat) : BrI w (wr.drewN k) pb p q N s ar v := ⟨h.bm.drewN k, h.kk.drewN k, drewB h.bel k, h.box⟩
set_option maxRecDepth 100000 in
set_option maxHeartbeats 8000000 in
theorem Bread_on (w : World) (pb p q N : Nat) (s : St) (ar : Ar) (v : Value) (h : Bm w pb p ar v) (d : Kk w p q N s) (ok : ArOk N ar) (at_ : Nat) (ha : at_ < ar.count) :
    Calls Tryd.prog 40 #[.pointer (some ⟨pb, 0, none⟩), .int .i64 (at_ : Nat)] w fun e w' => BrP w at_ (rdB s.sec (ar.first + at_) (ar.count - at_)) e w' := by
  have H : Hid _ := h
  have D : Hid _ := d
  have OK : Hid _ := ok
  have ha' : ¬ (ar.count : Int) ≤ (at_ : Int) := by omega
  have bN : (ar.first : Int) + (at_ : Int) < (N : Int) := by have := ok.far; omega
  have bN2 : (N : Int) ≤ 4096 := by have := ok.big; omega
  have bC : (ar.count : Int) ≤ 4096 := by have := ok.big; have := ok.far; omega
  have l0 := d.ok.len (ar.first + at_)
  have B0 : Hid (Bys (s.sec (ar.first + at_))) := d.ok.bys (ar.first + at_)
  have B1 : Hid (Below w.heap.size w (w.alloc (.cells #[.int .i64 0, .int .u8 0, .string ⟨#[]⟩] 89))) := allocB _ _
  have R1 : Hid (Boxed3 (w.alloc (.cells #[.int .i64 0, .int .u8 0, .string ⟨#[]⟩] 89)) w.heap.size (.int .i64 0) (.int .u8 0) (.string ⟨#[]⟩)) := heap_alloc_last w _
  clear h d ok
  go_enter Tryd.func40, Tryd.ntmps40
  go_upto_region 1 with fail
  generalize w.alloc (.cells #[.int .i64 0, .int .u8 0, .string ⟨#[]⟩] 89) = w1 at *
  have H1 : Hid _ := H.out.below B1.out
  have D1 : Hid _ := D.out.below B1.out
  have c0 := H1.out.c0
  have c1 := H1.out.c1
  have c2 := H1.out.c2
  have hl := H1.out.lt
  have hp := D1.out.ltp
  have hq := D1.out.ltq
  obtain ⟨kc, d0, kf, km⟩ := D1.out.c0
  have row : w1.cell? ⟨q, ar.first + at_, none⟩ = some (.string (strOfNums (s.sec (ar.first + at_)))) := D1.out.row _ (by have := OK.out.far; omega)
  go_upto_region 3 with fail
  have hx : (strOfNums (s.sec (ar.first + at_))).size = 64 := by rw [str_size]; exact l0
  go_quiet (fail)
  clear row d0 c1
  go_wp2_with fail
  rw [str_seg]
  have SB : Hid (∀ a n, Bys (seg (s.sec (ar.first + at_)) a n)) := fun a n => seg_ok B0.out a n
  refine Calls.mono (kup_any (seg (s.sec (ar.first + at_)) 14 (16 - 14)) _ (SB.out _ _) (by rw [seg_len (by omega)]; decide)) ?_
  rintro e w' ⟨rfl, rfl⟩
  have nl : hN (s.sec (ar.first + at_)) < 65536 := by
    have := upB_lt _ (SB.out 14 2)
    rw [seg_len (by omega)] at this
    exact this
  have NE : Hid (upB (seg (s.sec (ar.first + at_)) 14 (16 - 14)) = hN (s.sec (ar.first + at_))) := rfl
  rw [NE.out]
  have nl' : (hN (s.sec (ar.first + at_)) : Int) < 65536 := by omega
  have z0 : (((strOfNums (s.sec (ar.first + at_)))[0]'(by omega)).toNat : Int) = (s.sec (ar.first + at_)).getD 0 0 := str_at B0.out (i := 0) (by omega)
  have z1 := Bys.getD B0.out 0
  have SZ : Hid (hN (s.sec (ar.first + at_)) ≤ 1000 → ∀ W, Calls Tryd.prog 41 #[.int .i64 (hN (s.sec (ar.first + at_)) : Nat)] W fun e w' => e = .returned (.int .i64 (fsize (hN (s.sec (ar.first + at_))) : Nat)) ∧ w' = W) := fun h W => (kSize_any _ W h).mono fun e w' ⟨a, b⟩ => ⟨a, b.symm⟩
  obtain ⟨n, hn⟩ : ∃ n, n = hN (s.sec (ar.first + at_)) := ⟨_, rfl⟩
  rw [← hn] at nl nl' SZ ⊢
  have HN : Hid _ := hn
  clear hn NE
  go_upto_region 5 with fail
  have c2' : (w1.drewN nq).cell? ⟨pb, 2, none⟩ = some (.int .i64 (ar.count : Nat)) := c2
  have B2 : Hid (Below w.heap.size w (w1.drewN nq)) := drewB B1.out nq
  have R2 : Hid (Boxed3 (w1.drewN nq) w.heap.size (.int .i64 0) (.int .u8 0) (.string ⟨#[]⟩)) := R1.out
  have H2 : Hid _ := H1.out.drewN nq
  have pl2 := H2.out.lt
  have D2 : Hid _ := D1.out.drewN nq
  generalize w1.drewN nq = w2 at *
  clear c0 c2 hl hp hq kf km B1 R1 H1 D1 nq
  obtain ⟨z, hz⟩ : ∃ z, z = (s.sec (ar.first + at_)).getD 0 0 := ⟨_, rfl⟩
  rw [← hz] at z0 z1
  have HZ : Hid _ := hz
  clear hz
  by_cases q0 : z = 72
  · have q0' : (z != 72) = false := by rw [bne_eq_false_iff_eq]; exact q0
    by_cases q1 : n ≤ 1000
    · have q1' : decide ((1000 : Int) < (n : Int)) = false := decide_eq_false (by omega)
      have q3 : (fsize n : Int) ≤ 17 := by have := fsize_le q1; omega
      have SZ2 : Hid _ := SZ.out q1
      by_cases q2 : fsize n ≤ ar.count - at_
      · have q2' : decide ((ar.count : Int) - (at_ : Int) < (fsize n : Int)) = false := decide_eq_false (by omega)
        have Q0 : Hid _ := HZ.out.symm.trans q0
        have Q1 : Hid _ := q1
        have Q2 : Hid _ := q2
        have fp := fsize_pos n
        go_quiet ((go_at_call 41; exact Calls.quiet_of_same (SZ2.out _)))
        have q2p : ¬ (ar.count : Int) - (at_ : Int) < (fsize n : Int) := of_decide_eq_false q2'
        have I0 : Hid (BrI w (w2.drewN nq) pb p q N s ar v) := ⟨H2.out.drewN nq, D2.out.drewN nq, drewB B2.out nq, R2.out⟩
        clear q2' q1' q0' SZ z0 z1 nl nl' c2' pl2 q0 q1 q2 H2 D2 B2 R2
        generalize w2.drewN nq = w3 at *
        clear nq
        go_wp2_with fail
        rw [str_seg, show seg (s.sec (ar.first + at_)) 20 (64 - 20) = cat s.sec (ar.first + at_) 0 by unfold seg cat; rw [List.take_of_length_le (by rw [List.length_drop]; omega)]]
        go_loopg [10, 11] (fsize n - 1) (fun g bv kv wr => ∃ k : Nat, 1 ≤ k ∧ k ≤ fsize n ∧ g = fsize n - k ∧ bv = .string (strOfNums (cat s.sec (ar.first + at_) (k - 1))) ∧ kv = .int .i64 (k : Nat) ∧ Hid (ok67 s.sec (ar.first + at_) (k - 1) = true) ∧ Hid (BrI w wr pb p q N s ar v))
        case atStart => exact ⟨1, Nat.le_refl _, fp, rfl, rfl, rfl, rfl, I0.out⟩
        case round =>
          obtain ⟨k, hk1, hk2, rfl, rfl, rfl, O6, I⟩ := hrel
          by_cases qk : k < fsize n
          · have qk' : (k : Int) < (fsize n : Int) := by omega
            have c0 := I.out.bm.c0
            have c1 := I.out.bm.c1
            have hl := I.out.bm.lt
            have hp := I.out.kk.ltp
            have hq := I.out.kk.ltq
            obtain ⟨kc', d0, kf, km⟩ := I.out.kk.c0
            have q2n : fsize n ≤ ar.count - at_ := Q2.out
            have row : wr.cell? ⟨q, ar.first + at_ + k, none⟩ = some (.string (strOfNums (s.sec (ar.first + at_ + k)))) := I.out.kk.row _ (by have := OK.out.far; omega)
            have bK : (ar.first : Int) + (at_ : Int) + (k : Int) < (N : Int) := by have := OK.out.far; omega
            have lk : (strOfNums (s.sec (ar.first + at_ + k))).size = 64 := by rw [str_size]; exact I.out.kk.ok.len _
            go_wp2_with (go_at_call 41; refine Calls.mono (SZ2.out _) ?_; rintro e w' ⟨rfl, rfl⟩)
            go_quiet (fail)
            have I4 : Hid _ := I.out.drewN nq
            have zk : (((strOfNums (s.sec (ar.first + at_ + k)))[0]'(by omega)).toNat : Int) = (s.sec (ar.first + at_ + k)).getD 0 0 := str_at (I.out.kk.ok.bys _) (by omega)
            have lc : (strOfNums (cat s.sec (ar.first + at_) (k - 1))).size ≤ 2000 := by
              rw [str_size, cat_len I.out.kk.ok.len]
              have := fsize_le Q1.out
              omega
            have CE : Hid (cat s.sec (ar.first + at_) (k - 1) ++ seg (s.sec (ar.first + at_ + k)) 1 (64 - 1) = cat s.sec (ar.first + at_) k) := by
              show _ = _
              obtain ⟨j, rfl⟩ : ∃ j, k = j + 1 := ⟨k - 1, by omega⟩
              rw [Nat.add_sub_cancel, cat]
              congr 1
              unfold seg
              rw [List.take_of_length_le (by rw [List.length_drop, I.out.kk.ok.len]; omega)]
            clear c0 c1 hl hp hq kf km d0 row I I0
            generalize w'.drewN nq = w4 at *
            by_cases z6 : (s.sec (ar.first + at_ + k)).getD 0 0 = 67
            · rw [z6] at zk
              have O7 : Hid (ok67 s.sec (ar.first + at_) k = true) := by
                show _ = _
                obtain ⟨j, rfl⟩ : ∃ j, k = j + 1 := ⟨k - 1, by omega⟩
                have o := O6.out
                rw [Nat.add_sub_cancel] at o
                rw [ok67, o, z6]; rfl
              clear z6
              go_wp2_with fail
              rw [str_seg, str_app, CE.out]
              go_roundg (fsize n - (k + 1))
              case measure => omega
              case rel => exact ⟨k + 1, by omega, by omega, rfl, rfl, by congr 1, O7.out, I4.out⟩
            · have RN : Hid (rdB s.sec (ar.first + at_) (ar.count - at_) = none) := rdB_none fun c => z6 (by
                have h4 := c.2.2.2.1
                rw [← HN.out] at h4
                have := (ok67_all _).1 h4 (k - 1) (by omega)
                rw [show ar.first + at_ + (k - 1 + 1) = ar.first + at_ + k by omega] at this
                exact this)
              generalize (s.sec (ar.first + at_ + k)).getD 0 0 = z at *
              go_upto_region 13 with fail
              obtain ⟨k0, k1, k2, kf⟩ := Boxed3.cells (I4.out.box)
              have f0 := kf 0
              have f1 := kf 1
              have f2 := kf 2
              go_wp2
              have ST := set_box3 (v0 := .int .i64 0) (v1 := .int .u8 0) (v2 := .string ⟨#[]⟩) k0 k1 k2
              refine bodyPost_ret (v := .tuple #[.agg #[.int .i64 0, .int .u8 0, .string ⟨#[]⟩], .int .u64 0, .int .u64 0, .bool false]) (by simp [results, Tryd.results40, go_sem, ST.1, ST.2.1, ST.2.2]) rfl ?_
              rw [RN.out]
              exact ⟨fun _ => rfl, (fun f e => (by cases e)), below3 (I4.out.bel) _ _ _⟩
          · obtain rfl : k = fsize n := by omega
            have lc : (strOfNums (cat s.sec (ar.first + at_) (fsize n - 1))).size ≤ 2000 ∧ n ≤ (strOfNums (cat s.sec (ar.first + at_) (fsize n - 1))).size := by
              rw [str_size, cat_len I.out.kk.ok.len]
              have := fsize_le Q1.out
              have := @fsize_holds n
              omega
            have lc1 : ((strOfNums (cat s.sec (ar.first + at_) (fsize n - 1))).size : Int) ≤ 2000 := by omega
            have lc2 : (n : Int) ≤ ((strOfNums (cat s.sec (ar.first + at_) (fsize n - 1))).size : Int) := by omega
            have PE : Hid (seg (cat s.sec (ar.first + at_) (fsize n - 1)) 0 (n - 0) = payB s.sec (ar.first + at_)) := by
              show _ = _
              unfold payB seg
              rw [← HN.out, List.drop_zero, Nat.sub_zero]
            go_wp2_with (go_at_call 41; refine Calls.mono (SZ2.out _) ?_; rintro e w' ⟨rfl, rfl⟩)
            rw [str_seg, PE.out]
            have PB : Hid (Bys (payB s.sec (ar.first + at_))) := payB_ok I.out.kk.ok.bys _
            have PL : Hid ((payB s.sec (ar.first + at_)).length = n) := by show _ = _; rw [payB_len I.out.kk.ok.len, ← HN.out]
            have x1 : (strOfNums (s.sec (ar.first + at_))).extract 0 16 = (strOfNums (seg (s.sec (ar.first + at_)) 0 16)) := str_seg _ _ _
            have x2 : (strOfNums (s.sec (ar.first + at_))).extract 16 20 = (strOfNums (seg (s.sec (ar.first + at_)) 16 4)) := str_seg _ _ _
            have x3 : (strOfNums (s.sec (ar.first + at_))).extract 2 10 = (strOfNums (seg (s.sec (ar.first + at_)) 2 8)) := str_seg _ _ _
            have x4 : (strOfNums (s.sec (ar.first + at_))).extract 10 14 = (strOfNums (seg (s.sec (ar.first + at_)) 10 4)) := str_seg _ _ _
            have k1 : (((strOfNums (s.sec (ar.first + at_)))[1]'(by omega)).toNat : Int) = (s.sec (ar.first + at_)).getD 1 0 := str_at B0.out (i := 1) (by omega)
            have PP : Hid (seg (s.sec (ar.first + at_)) 0 16 = (s.sec (ar.first + at_)).take 16) := by show _ = _; unfold seg; rw [List.drop_zero]
            refine wp_region_held_drew (S := fun W => True) (by kernel_rfl) trivial (fun hHeld => ?_)
            refine take2 rfl (i := 0) (v := .string (strOfNums (s.sec (ar.first + at_)))) (d := 94) rfl rfl (by kernel_rfl) (by kernel_rfl) (by kernel_rfl) (fun _ _ _ h => h) (Or.inl ⟨by rfl, ?_⟩) (by exact hHeld) ?_
            · intro W hW
              try dsimp only at hW
              go_simp
            try simp only [Act.put, List.setIfInBounds_toArray, List.set_cons_zero, List.set_cons_succ]
            refine take2 rfl (i := 1) (v := .string (strOfNums (seg (s.sec (ar.first + at_)) 0 16))) (d := 95) rfl rfl (by kernel_rfl) (by kernel_rfl) (by kernel_rfl) (fun _ _ _ h => h) (Or.inl ⟨by rfl, ?_⟩) (by exact hHeld) ?_
            · intro W hW
              try dsimp only at hW
              go_simp
            try simp only [Act.put, List.setIfInBounds_toArray, List.set_cons_zero, List.set_cons_succ]
            refine take2 rfl (i := 2) (v := .string (strOfNums (payB s.sec (ar.first + at_)))) (d := 96) rfl rfl (by kernel_rfl) (by kernel_rfl) (by kernel_rfl) (fun _ _ _ h => h) (Or.inl ⟨by rfl, ?_⟩) (by exact hHeld) ?_
            · intro W hW
              try dsimp only at hW
              go_simp
            try simp only [Act.put, List.setIfInBounds_toArray, List.set_cons_zero, List.set_cons_succ]
            refine take2 rfl (i := 4) (v := .string (strOfNums (s.sec (ar.first + at_)))) (d := 98) rfl rfl (by kernel_rfl) (by kernel_rfl) (by kernel_rfl) (fun _ _ _ h => h) (Or.inl ⟨by rfl, ?_⟩) (by exact hHeld) ?_
            · intro W hW
              try dsimp only at hW
              go_simp
            try simp only [Act.put, List.setIfInBounds_toArray, List.set_cons_zero, List.set_cons_succ]
            refine take2 rfl (i := 5) (v := .string (strOfNums (seg (s.sec (ar.first + at_)) 16 4))) (d := 99) rfl rfl (by kernel_rfl) (by kernel_rfl) (by kernel_rfl) (fun _ _ _ h => h) (Or.inl ⟨by rfl, ?_⟩) (by exact hHeld) ?_
            · intro W hW
              try dsimp only at hW
              go_simp
            try simp only [Act.put, List.setIfInBounds_toArray, List.set_cons_zero, List.set_cons_succ]
            refine wpAnyH_ready (rs := [3]) (by kernel_rfl) (by simp) ?_
            refine cons2 rfl rfl (fun K hK => ?_)
            go_simp
            refine Calls.mono (ksum_any (seg (s.sec (ar.first + at_)) 0 16) (payB s.sec (ar.first + at_)) w'.drew (SB.out 0 16) PB.out (by rw [seg_len (by omega), PL.out]; have := Q1.out; omega)) ?_
            rintro e w5 ⟨rfl, b5⟩
            have B5 : Hid (Below w'.heap.size w' w5) := nextB ((Below.refl _ _).drew) b5
            rw [PP.out]
            have I5 : Hid (BrI w w5 pb p q N s ar v) := I.out.below B5.out
            obtain ⟨S, hS⟩ : ∃ S, S = sum ((s.sec (ar.first + at_)).take 16 ++ payB s.sec (ar.first + at_)) := ⟨_, rfl⟩
            rw [← hS]
            have HSS : Hid _ := hS
            clear hS b5 I hHeld
            go_wp2_with fail
            refine hK.out _ _ ?_ (fun hX => ?_)
            · exact trivial
            clear hK K hX
            try simp only [Act.put, List.setIfInBounds_toArray, List.set_cons_zero, List.set_cons_succ]
            obtain ⟨b6, h6⟩ : ∃ b6 : Bool, decide (lowB 4 S = seg (s.sec (ar.first + at_)) 16 4) = !b6 := ⟨!decide (lowB 4 S = seg (s.sec (ar.first + at_)) 16 4), (Bool.not_not _).symm⟩
            have H6 : Hid _ := h6
            have h6' := (str_eq (lowB_ok 4 S) (SB.out 16 4)).trans h6
            clear h6
            have hHeld : True := trivial
            refine take2 rfl (i := 6) (v := .bool b6) (d := 100) rfl rfl (by kernel_rfl) (by kernel_rfl) (by kernel_rfl) (fun _ _ _ h => h) (Or.inl ⟨by rfl, ?_⟩) (by exact hHeld) ?_
            · intro W hW
              try dsimp only at hW
              go_simp
            try simp only [Act.put, List.setIfInBounds_toArray, List.set_cons_zero, List.set_cons_succ]
            refine wpAnyH_done (by kernel_rfl) ?_ _
            clear hHeld h6'
            cases b6 with
            | true =>
              have SE : Hid (S ≠ hSum (s.sec (ar.first + at_))) := by
                intro c
                have e3 := (low_eq (v := S) (SB.out 16 4) (by rw [seg_len (by omega)]) (by rw [HSS.out]; exact sum_lt32 _)).2 c
                exact of_decide_eq_false H6.out e3
              have RN : Hid (rdB s.sec (ar.first + at_) (ar.count - at_) = none) := rdB_none fun c => SE.out (by rw [HSS.out]; exact c.2.2.2.2)
              go_upto_region 17 with fail
              obtain ⟨k0, k1, k2, kf⟩ := Boxed3.cells (I5.out.box)
              have f0 := kf 0
              have f1 := kf 1
              have f2 := kf 2
              go_wp2
              have ST := set_box3 (v0 := .int .i64 0) (v1 := .int .u8 0) (v2 := .string ⟨#[]⟩) k0 k1 k2
              refine bodyPost_ret (v := .tuple #[.agg #[.int .i64 0, .int .u8 0, .string ⟨#[]⟩], .int .u64 0, .int .u64 0, .bool false]) (by simp [results, Tryd.results40, go_sem, ST.1, ST.2.1, ST.2.2]) rfl ?_
              rw [RN.out]
              exact ⟨fun _ => rfl, (fun f e => (by cases e)), below3 (I5.out.bel) _ _ _⟩
            | false =>
              go_wp2_with fail
              have SE : Hid (S = hSum (s.sec (ar.first + at_))) := by
                show _ = _
                have e3 : lowB 4 S = seg (s.sec (ar.first + at_)) 16 4 := of_decide_eq_true H6.out
                rw [low_eq (SB.out 16 4) (by rw [seg_len (by omega)]) (by rw [HSS.out]; exact sum_lt32 _)] at e3
                exact e3
              have RN : Hid (rdB s.sec (ar.first + at_) (ar.count - at_) = some ⟨(s.sec (ar.first + at_)).getD 1 0, hLife (s.sec (ar.first + at_)), hNum (s.sec (ar.first + at_)), payB s.sec (ar.first + at_)⟩) := rdB_is ⟨Q0.out, by rw [← HN.out]; exact Q1.out, by rw [← HN.out]; exact Q2.out, by rw [← HN.out]; exact O6.out, by rw [← HSS.out]; exact SE.out⟩
              generalize (s.sec (ar.first + at_)).getD 1 0 = kd at *
              refine wp_region_held_drew (S := fun W => Below w.heap.size w W) (by kernel_rfl) I5.out.bel.drew (fun hHeld => ?_)
              refine take2 rfl (i := 0) (v := .int .i64 (at_ : Nat)) (d := 102) rfl rfl (by kernel_rfl) (by kernel_rfl) (by kernel_rfl) (fun _ _ _ h => h) (Or.inl ⟨by rfl, ?_⟩) (by exact hHeld) ?_
              · intro W hW
                try dsimp only at hW
                go_simp
              try simp only [Act.put, List.setIfInBounds_toArray, List.set_cons_zero, List.set_cons_succ]
              refine take2 rfl (i := 1) (v := .string (strOfNums (s.sec (ar.first + at_)))) (d := 103) rfl rfl (by kernel_rfl) (by kernel_rfl) (by kernel_rfl) (fun _ _ _ h => h) (Or.inl ⟨by rfl, ?_⟩) (by exact hHeld) ?_
              · intro W hW
                try dsimp only at hW
                go_simp
              try simp only [Act.put, List.setIfInBounds_toArray, List.set_cons_zero, List.set_cons_succ]
              refine take2 rfl (i := 2) (v := .int .u8 kd) (d := 104) rfl rfl (by kernel_rfl) (by kernel_rfl) (by kernel_rfl) (fun _ _ _ h => h) (Or.inl ⟨by rfl, ?_⟩) (by exact hHeld) ?_
              · intro W hW
                try dsimp only at hW
                go_simp
              try simp only [Act.put, List.setIfInBounds_toArray, List.set_cons_zero, List.set_cons_succ]
              refine take2 rfl (i := 3) (v := .string (strOfNums (payB s.sec (ar.first + at_)))) (d := 105) rfl rfl (by kernel_rfl) (by kernel_rfl) (by kernel_rfl) (fun _ _ _ h => h) (Or.inl ⟨by rfl, ?_⟩) (by exact hHeld) ?_
              · intro W hW
                try dsimp only at hW
                go_simp
              try simp only [Act.put, List.setIfInBounds_toArray, List.set_cons_zero, List.set_cons_succ]
              refine take2 rfl (i := 4) (v := .agg #[.int .i64 (at_ : Nat), .int .u8 kd, .string (strOfNums (payB s.sec (ar.first + at_)))]) (d := 106) rfl rfl (by kernel_rfl) (by kernel_rfl) (by kernel_rfl) (fun _ _ _ h => h) (Or.inl ⟨by rfl, ?_⟩) (by exact hHeld) ?_
              · intro W hW
                try dsimp only at hW
                go_simp
              try simp only [Act.put, List.setIfInBounds_toArray, List.set_cons_zero, List.set_cons_succ]
              refine take2 rfl (i := 5) (v := .string (strOfNums (s.sec (ar.first + at_)))) (d := 107) rfl rfl (by kernel_rfl) (by kernel_rfl) (by kernel_rfl) (fun _ _ _ h => h) (Or.inl ⟨by rfl, ?_⟩) (by exact hHeld) ?_
              · intro W hW
                try dsimp only at hW
                go_simp
              try simp only [Act.put, List.setIfInBounds_toArray, List.set_cons_zero, List.set_cons_succ]
              refine take2 rfl (i := 6) (v := .string (strOfNums (seg (s.sec (ar.first + at_)) 2 8))) (d := 108) rfl rfl (by kernel_rfl) (by kernel_rfl) (by kernel_rfl) (fun _ _ _ h => h) (Or.inl ⟨by rfl, ?_⟩) (by exact hHeld) ?_
              · intro W hW
                try dsimp only at hW
                go_simp
              try simp only [Act.put, List.setIfInBounds_toArray, List.set_cons_zero, List.set_cons_succ]
              refine take2 rfl (i := 8) (v := .string (strOfNums (s.sec (ar.first + at_)))) (d := 110) rfl rfl (by kernel_rfl) (by kernel_rfl) (by kernel_rfl) (fun _ _ _ h => h) (Or.inl ⟨by rfl, ?_⟩) (by exact hHeld) ?_
              · intro W hW
                try dsimp only at hW
                go_simp
              try simp only [Act.put, List.setIfInBounds_toArray, List.set_cons_zero, List.set_cons_succ]
              refine take2 rfl (i := 9) (v := .string (strOfNums (seg (s.sec (ar.first + at_)) 10 4))) (d := 111) rfl rfl (by kernel_rfl) (by kernel_rfl) (by kernel_rfl) (fun _ _ _ h => h) (Or.inl ⟨by rfl, ?_⟩) (by exact hHeld) ?_
              · intro W hW
                try dsimp only at hW
                go_simp
              try simp only [Act.put, List.setIfInBounds_toArray, List.set_cons_zero, List.set_cons_succ]
              refine wpAnyH_ready (rs := [7]) (by kernel_rfl) (by simp) ?_
              refine cons2 rfl rfl (fun K hK => ?_)
              go_simp
              refine Calls.mono (kup_any (seg (s.sec (ar.first + at_)) 2 8) _ (SB.out 2 8) (by rw [seg_len (by omega)]; decide)) ?_
              rintro e w7 ⟨rfl, hw7⟩
              rw [← hw7]
              clear hw7
              go_wp2_with fail
              refine hK.out _ _ ?_ (fun hX => ?_)
              · exact hHeld
              clear hK K hX
              try simp only [Act.put, List.setIfInBounds_toArray, List.set_cons_zero, List.set_cons_succ]
              refine wpAnyH_ready (rs := [10]) (by kernel_rfl) (by simp) ?_
              refine cons2 rfl rfl (fun K hK => ?_)
              go_simp
              refine Calls.mono (kup_any (seg (s.sec (ar.first + at_)) 10 4) _ (SB.out 10 4) (by rw [seg_len (by omega)]; decide)) ?_
              rintro e w8 ⟨rfl, hw8⟩
              rw [← hw8]
              clear hw8
              go_wp2_with fail
              refine hK.out _ _ ?_ (fun hX => ?_)
              · exact hHeld
              clear hK K hX
              try simp only [Act.put, List.setIfInBounds_toArray, List.set_cons_zero, List.set_cons_succ]
              obtain ⟨k0, kk1, k2, kf⟩ := Boxed3.cells I5.out.box
              have f0 := kf 0
              have f1 := kf 1
              have f2 := kf 2
              refine wpAnyH_ready (rs := [11]) (by kernel_rfl) (by simp) ?_
              refine cons2 rfl rfl (fun K hK => ?_)
              go_simp
              refine hK.out _ _ ?_ (fun hX => ?_)
              · exact (below3 I5.out.bel _ _ _).drew
              clear hHeld
              have hHeld := hX
              clear hK K hX
              try simp only [Act.put, List.setIfInBounds_toArray, List.set_cons_zero, List.set_cons_succ]
              refine take2 rfl (i := 12) (v := .int .u64 (upB (seg (s.sec (ar.first + at_)) 2 8) : Nat)) (d := 5) rfl rfl (by kernel_rfl) (by kernel_rfl) (by kernel_rfl) (fun _ _ _ h => h) (Or.inl ⟨by rfl, ?_⟩) (by exact hHeld) ?_
              · intro W hW
                try dsimp only at hW
                go_simp
              try simp only [Act.put, List.setIfInBounds_toArray, List.set_cons_zero, List.set_cons_succ]
              refine take2 rfl (i := 13) (v := .int .u64 (upB (seg (s.sec (ar.first + at_)) 10 4) : Nat)) (d := 6) rfl rfl (by kernel_rfl) (by kernel_rfl) (by kernel_rfl) (fun _ _ _ h => h) (Or.inl ⟨by rfl, ?_⟩) (by exact hHeld) ?_
              · intro W hW
                try dsimp only at hW
                go_simp
              try simp only [Act.put, List.setIfInBounds_toArray, List.set_cons_zero, List.set_cons_succ]
              refine take2 rfl (i := 14) (v := .bool true) (d := 7) rfl rfl (by kernel_rfl) (by kernel_rfl) (by kernel_rfl) (fun _ _ _ h => h) (Or.inl ⟨by rfl, ?_⟩) (by exact hHeld) ?_
              · intro W hW
                try dsimp only at hW
                go_simp
              try simp only [Act.put, List.setIfInBounds_toArray, List.set_cons_zero, List.set_cons_succ]
              refine wpAnyH_done (by kernel_rfl) ?_ _
              go_wp2
              have ST := set_box3 (v0 := .int .i64 (at_ : Nat)) (v1 := .int .u8 kd) (v2 := .string (strOfNums (payB s.sec (ar.first + at_)))) k0 kk1 k2
              have S0 : (((w5.setCell ⟨w.heap.size, 0, none⟩ (.int .i64 (at_ : Nat))).setCell ⟨w.heap.size, 1, none⟩ (.int .u8 kd)).setCell ⟨w.heap.size, 2, none⟩ (.string (strOfNums (payB s.sec (ar.first + at_))))).drew.cell? ⟨w.heap.size, 0, none⟩ = some (.int .i64 (at_ : Nat)) := ST.1
              have S1 : (((w5.setCell ⟨w.heap.size, 0, none⟩ (.int .i64 (at_ : Nat))).setCell ⟨w.heap.size, 1, none⟩ (.int .u8 kd)).setCell ⟨w.heap.size, 2, none⟩ (.string (strOfNums (payB s.sec (ar.first + at_))))).drew.cell? ⟨w.heap.size, 1, none⟩ = some (.int .u8 kd) := ST.2.1
              have S2 : (((w5.setCell ⟨w.heap.size, 0, none⟩ (.int .i64 (at_ : Nat))).setCell ⟨w.heap.size, 1, none⟩ (.int .u8 kd)).setCell ⟨w.heap.size, 2, none⟩ (.string (strOfNums (payB s.sec (ar.first + at_))))).drew.cell? ⟨w.heap.size, 2, none⟩ = some (.string (strOfNums (payB s.sec (ar.first + at_)))) := ST.2.2
              generalize (((w5.setCell ⟨w.heap.size, 0, none⟩ (.int .i64 (at_ : Nat))).setCell ⟨w.heap.size, 1, none⟩ (.int .u8 kd)).setCell ⟨w.heap.size, 2, none⟩ (.string (strOfNums (payB s.sec (ar.first + at_))))).drew = W9 at *
              refine bodyPost_ret (v := .tuple #[.agg #[.int .i64 (at_ : Nat), .int .u8 kd, .string (strOfNums (payB s.sec (ar.first + at_)))], .int .u64 (upB (seg (s.sec (ar.first + at_)) 2 8) : Nat), .int .u64 (upB (seg (s.sec (ar.first + at_)) 10 4) : Nat), .bool true]) (by simp [results, Tryd.results40, go_sem, S0, S1, S2]) rfl ?_
              rw [RN.out]
              exact ⟨(fun e => (by cases e)), (fun f e => by cases e; rfl), hHeld⟩

      · have q2' : decide ((ar.count : Int) - (at_ : Int) < (fsize n : Int)) = true := decide_eq_true (by omega)
        have RN : Hid (rdB s.sec (ar.first + at_) (ar.count - at_) = none) := rdB_none fun k => by have := k.2.2.1; rw [← HN.out] at this; omega
        clear q0 q1 q2
        go_quiet ((go_at_call 41; exact Calls.quiet_of_same (SZ2.out _)))
        have q2p := of_decide_eq_true q2'
        clear q2' q1' q3 q0' SZ2 SZ z0 z1 nl nl' hx l0 c2' pl2
        go_upto_region 6 with fail
        obtain ⟨k0, k1, k2, kf⟩ := Boxed3.cells (show Boxed3 (w2.drewN nq) _ _ _ _ from R2.out)
        have f0 := kf 0
        have f1 := kf 1
        have f2 := kf 2
        go_wp2
        have ST := set_box3 (v0 := .int .i64 0) (v1 := .int .u8 0) (v2 := .string ⟨#[]⟩) k0 k1 k2
        refine bodyPost_ret (v := .tuple #[.agg #[.int .i64 0, .int .u8 0, .string ⟨#[]⟩], .int .u64 0, .int .u64 0, .bool false]) (by simp [results, Tryd.results40, go_sem, ST.1, ST.2.1, ST.2.2]) rfl ?_
        rw [RN.out]
        exact ⟨fun _ => rfl, (fun f e => (by cases e)), below3 (drewB B2.out nq) _ _ _⟩
    · have q1' : decide ((1000 : Int) < (n : Int)) = true := decide_eq_true (by omega)
      have RN : Hid (rdB s.sec (ar.first + at_) (ar.count - at_) = none) := rdB_none fun k => by have := k.2.1; rw [← HN.out] at this; omega
      clear q0 q1
      go_quiet (fail)
      go_upto_region 6 with fail
      obtain ⟨k0, k1, k2, kf⟩ := Boxed3.cells (show Boxed3 (w2.drewN nq) _ _ _ _ from R2.out)
      have f0 := kf 0
      have f1 := kf 1
      have f2 := kf 2
      go_wp2
      have ST := set_box3 (v0 := .int .i64 0) (v1 := .int .u8 0) (v2 := .string ⟨#[]⟩) k0 k1 k2
      refine bodyPost_ret (v := .tuple #[.agg #[.int .i64 0, .int .u8 0, .string ⟨#[]⟩], .int .u64 0, .int .u64 0, .bool false]) (by simp [results, Tryd.results40, go_sem, ST.1, ST.2.1, ST.2.2]) rfl ?_
      rw [RN.out]
      exact ⟨fun _ => rfl, (fun f e => (by cases e)), below3 (drewB B2.out nq) _ _ _⟩
  · have q0' : (z != 72) = true := by rw [bne_iff_ne]; exact q0
    have RN : Hid (rdB s.sec (ar.first + at_) (ar.count - at_) = none) := rdB_none fun k => q0 (HZ.out.trans k.1)
    clear q0
    go_quiet (fail)
    go_upto_region 6 with fail
    obtain ⟨k0, k1, k2, kf⟩ := Boxed3.cells (show Boxed3 (w2.drewN nq) _ _ _ _ from R2.out)
    have f0 := kf 0
    have f1 := kf 1
    have f2 := kf 2
    go_wp2
    have ST := set_box3 (v0 := .int .i64 0) (v1 := .int .u8 0) (v2 := .string ⟨#[]⟩) k0 k1 k2
    refine bodyPost_ret (v := .tuple #[.agg #[.int .i64 0, .int .u8 0, .string ⟨#[]⟩], .int .u64 0, .int .u64 0, .bool false]) (by simp [results, Tryd.results40, go_sem, ST.1, ST.2.1, ST.2.2]) rfl ?_
    rw [RN.out]
    exact ⟨fun _ => rfl, (fun f e => (by cases e)), below3 (drewB B2.out nq) _ _ _⟩

end Go.Proofs.YtblmfkdcahhhbaaDoor
