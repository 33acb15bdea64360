/- Where frames stand; the walk over package frame: Get. -/
import Derived.Test.YtblmfkdcahhhbaaDoorI1
namespace Go.Proofs.YtblmfkdcahhhbaaDoor
open Go.RowKit
set_option linter.unusedVariables false
set_option linter.unusedSimpArgs false

/-- The frames stand one right behind the other. -/
def laidP (fs : List Fa) : Prop := ∀ i (h : i < fs.length), (fs[i]).pos = used (fs.take i)
theorem laidP_nil : laidP [] := fun i h => absurd h (Nat.not_lt_zero _)
theorem laidP_snoc {fs : List Fa} {f : Fa} (h : laidP fs) (hf : f.pos = used fs) : laidP (fs ++ [f]) := fun i hi => by
  rw [List.length_append, List.length_singleton] at hi
  rcases Nat.lt_or_ge i fs.length with q | q
  · rw [List.getElem_append_left q, List.take_append_of_le_length (by omega)]; exact h i q
  · obtain rfl : i = fs.length := by omega
    rw [List.getElem_append_right (Nat.le_refl _), List.take_append_of_le_length (Nat.le_refl _), List.take_length]
    simpa using hf
theorem used_take_succ {fs : List Fa} {i : Nat} (h : i < fs.length) : used (fs.take (i + 1)) = used (fs.take i) + fsize (fs[i]).pay.length := by
  rw [List.take_succ_eq_append_getElem h, used_snoc]
theorem used_take_le {fs : List Fa} : ∀ {i j : Nat}, i ≤ j → used (fs.take i) ≤ used (fs.take j) := by
  intro i j h
  induction j with
  | zero => obtain rfl : i = 0 := by omega
            exact Nat.le_refl _
  | succ j ih =>
    rcases Nat.eq_or_lt_of_le h with e | e
    · subst e; exact Nat.le_refl _
    · refine Nat.le_trans (ih (by omega)) ?_
      rcases Nat.lt_or_ge j fs.length with q | q
      · rw [used_take_succ q]; omega
      · rw [List.take_of_length_le q, List.take_of_length_le (by omega)]; exact Nat.le_refl _
theorem used_take_lt {fs : List Fa} {i j : Nat} (h : i < j) (hi : i < fs.length) : used (fs.take i) < used (fs.take j) := by
  have h1 := used_take_succ hi
  have h2 := used_take_le (fs := fs) (i := i + 1) (j := j) h
  have h3 := fsize_pos (fs[i]).pay.length
  omega
theorem laidP.lt {fs : List Fa} (h : laidP fs) {i j : Nat} (hij : i < j) (hj : j < fs.length) : (fs[i]'(by omega)).pos < (fs[j]).pos := by
  rw [h i (by omega), h j hj]; exact used_take_lt hij (by omega)
theorem laidP.room {fs : List Fa} (h : laidP fs) {i : Nat} (hi : i < fs.length) : (fs[i]).pos + fsize (fs[i]).pay.length ≤ used fs := by
  rw [h i hi]
  have h1 := used_take_succ hi
  have h2 := used_take_le (fs := fs) (i := i + 1) (j := fs.length) hi
  rw [List.take_length] at h2
  omega
theorem laidP_fnd {sec : Nat → List Int} {first count : Nat} : ∀ (k life : Nat) (fs : List Fa), laidP fs → laidP (fnd sec first count k life fs).2
  | 0, life, fs, h => h
  | k + 1, life, fs, h => by
    unfold fnd
    split
    · exact h
    · split
      · exact laidP_fnd k _ _ (laidP_snoc h rfl)
      · exact h
theorem laidP_addG {N : Nat} {s : St} {a : Ar} {k : Int} {b : List Int} (h : laidP a.fs) : laidP (addG N s a k b).a.fs := by
  unfold addG
  split
  · exact h
  · split
    · exact h
    · split
      · exact h
      · split
        · exact laidP_snoc h rfl
        · exact h
theorem laidP_opn (s : St) (first count : Nat) : laidP (opn s first count).fs := laidP_fnd _ _ _ laidP_nil

/-- What Get answers. -/
structure Gt where
  kind : Int
  pay : List Int
  err : Int
noncomputable def gotG (s : St) (ar : Ar) (i at_ : Nat) : Gt :=
  if s.lives ≠ ar.lives then ⟨0, [], 4⟩ else if s.on = false then ⟨0, [], 4⟩ else
  match rdB s.sec (ar.first + at_) (ar.count - at_) with
  | none => ⟨0, [], 3⟩
  | some f => if f.life = ar.life ∧ f.num = i then ⟨f.kind, f.pay, 0⟩ else ⟨0, [], 3⟩
theorem gotG_over {s : St} {ar : Ar} {i at_ : Nat} (h : s.lives ≠ ar.lives) : gotG s ar i at_ = ⟨0, [], 4⟩ := if_pos h
theorem gotG_off {s : St} {ar : Ar} {i at_ : Nat} (h : s.on = false) : gotG s ar i at_ = ⟨0, [], 4⟩ := by unfold gotG; split <;> first | rfl | exact if_pos h
theorem gotG_none {s : St} {ar : Ar} {i at_ : Nat} (h : s.lives = ar.lives) (h1 : s.on = true) (h2 : rdB s.sec (ar.first + at_) (ar.count - at_) = none) : gotG s ar i at_ = ⟨0, [], 3⟩ := by unfold gotG; rw [if_neg (by simp [h]), if_neg (by simp [h1]), h2]
theorem gotG_some {s : St} {ar : Ar} {i at_ : Nat} {f : Fr} (h : s.lives = ar.lives) (h1 : s.on = true) (h2 : rdB s.sec (ar.first + at_) (ar.count - at_) = some f) : gotG s ar i at_ = if f.life = ar.life ∧ f.num = i then ⟨f.kind, f.pay, 0⟩ else ⟨0, [], 3⟩ := by unfold gotG; rw [if_neg (by simp [h]), if_neg (by simp [h1]), h2]
structure GtP (w : World) (r : Gt) (e : Ending) (w' : World) : Prop where
  ret : ∃ a c, e = .returned (.tuple #[.int .u8 r.kind, .slice a r.pay.length c, .int .i64 r.err]) ∧ By w' a r.pay.length c r.pay ∧ (∀ x, a = some x → w.heap.size ≤ x.block)
  bel : Below w.heap.size w w'
theorem by_nil (w : World) : By w none 0 0 [] := ⟨rfl, Nat.le_refl _, Nat.zero_le _, fun _ => rfl, ⟨0, 0, fun h => by omega, fun i hi => by omega⟩, fun x hx => by cases hx⟩
theorem GtP.no {w w' : World} (x : Int) (b : Below w.heap.size w w') : GtP w ⟨0, [], x⟩ (.returned (.tuple #[.int .u8 0, .slice none 0 0, .int .i64 x])) w' :=
  ⟨⟨none, 0, rfl, by_nil _, fun x hx => by cases hx⟩, b⟩
/-- Search among the starts. -/
theorem starts_any (w : World) (pa p : Nat) (ar : Ar) (a : Option Addr) (cap : Nat) (h : Am w pa p ar (.slice a ar.fs.length cap)) (hl : laidP ar.fs) (hn : ar.fs.length ≤ 4096) (x : Int) :
    Calls Tryd.prog 37 #[.slice a ar.fs.length cap, .int .i64 x] w fun e w' => BsP ar.fs.length (fun i => ((ar.fs.getD i ⟨0, 0, []⟩).pos : Int)) x e ∧ w = w' := by
  obtain ⟨a', cap', e, f1, f2, f3, g, h1, h2⟩ := h.form
  obtain ⟨rfl, rfl⟩ : a = a' ∧ cap = cap' := by simpa using e
  refine BinarySearch_any a _ cap _ x w (by omega) g h1 (fun i hi => ?_) (fun i j hij hj => ?_)
  · rw [h2 i hi, List.getD_eq_getElem?_getD, List.getElem?_eq_getElem hi]; rfl
  · have := hl.lt hij hj
    simp only [List.getD_eq_getElem?_getD, List.getElem?_eq_getElem hj, List.getElem?_eq_getElem (Nat.lt_trans hij hj), Option.getD_some]
    omega

set_option maxRecDepth 100000 in
set_option maxHeartbeats 4000000 in
theorem Get_none (w : World) (pa p : Nat) (ar : Ar) (v : Value) (h : Am w pa p ar v) (hl : laidP ar.fs) (hn : ar.fs.length ≤ 4096) (x : Int) (hx : ∀ i (hi : i < ar.fs.length), ((ar.fs[i]).pos : Int) ≠ x) :
    Calls Tryd.prog 11 #[.pointer (some ⟨pa, 0, none⟩), .int .i64 x] w fun e w' => GtP w ⟨0, [], 5⟩ e w' := by
  obtain ⟨a, cap, rfl, -⟩ := h.form
  have BS : Hid _ := starts_any w pa p ar a cap h hl hn x
  have c5 := h.c5
  have pl := h.lt
  have HX : Hid _ := hx
  clear h hl hx
  go_enter Tryd.func11, Tryd.ntmps11
  go_wp2_with fail
  refine Calls.mono BS.out ?_
  rintro e w1 ⟨⟨i, b, rfl, h1, h2⟩, rfl⟩
  cases b with
  | true =>
    obtain ⟨q1, q2⟩ := h1 rfl
    rw [List.getD_eq_getElem?_getD, List.getElem?_eq_getElem q1] at q2
    exact absurd q2 (HX.out i q1)
  | false =>
    clear h1 h2
    go_wp2
    refine bodyPost_ret (v := .tuple #[.int .u8 0, .slice none 0 0, .int .i64 5]) (by simp [results, Tryd.results11, go_sem]) rfl ?_
    exact GtP.no 5 (Below.refl _ _)

set_option maxRecDepth 100000 in
set_option maxHeartbeats 8000000 in
theorem Get_some (w : World) (pa p q N : Nat) (s : St) (ar : Ar) (v : Value) (h : Am w pa p ar v) (d : Dk w p q N s) (ok : ArOk N ar) (T : Tab w) (hl : laidP ar.fs) (i : Nat) (hi : i < ar.fs.length) :
    Calls Tryd.prog 11 #[.pointer (some ⟨pa, 0, none⟩), .int .i64 ((ar.fs[i]).pos : Nat)] w fun e w' => GtP w (gotG s ar i (ar.fs[i]).pos) e w' := by
  obtain ⟨a, cap, rfl, f1, f2, -⟩ := h.form
  have BS : Hid _ := starts_any w pa p ar a cap h hl ok.len ((ar.fs[i]).pos : Nat)
  have c5 := h.c5
  have c4 := h.c4
  have pl := h.lt
  have i' : (i : Int) ≤ 4096 := by have := ok.len; omega
  have hr := hl.room hi
  have hps := fsize_pos (ar.fs[i]).pay.length
  have hat : (ar.fs[i]).pos < ar.count := by have := ok.fit; omega
  have IX : Hid (∀ j, j < ar.fs.length → ((ar.fs.getD j ⟨0, 0, []⟩).pos : Int) = ((ar.fs[i]).pos : Nat) → j = i) := fun j hj e => by
    rw [List.getD_eq_getElem?_getD, List.getElem?_eq_getElem hj] at e
    simp only [Option.getD_some] at e
    rcases Nat.lt_trichotomy j i with c | c | c
    · have := hl.lt c hi; omega
    · exact c
    · have := hl.lt c hj; omega
  have HI : Hid (((ar.fs.getD i ⟨0, 0, []⟩).pos : Int) = ((ar.fs[i]).pos : Nat)) := by
    show _ = _
    rw [List.getD_eq_getElem?_getD, List.getElem?_eq_getElem hi]; rfl
  have ML : Hid (i < ar.fs.length) := hi
  generalize (ar.fs[i]).pos = at_ at *
  have DN : Hid _ := fun k => done_any (w.drewN k) pa p q N s ar _ (h.drewN k) (d.drewN k)
  have RD : Hid _ := fun (o : s.on = true) k => read_any (w.drewN k) pa p q N s ar _ (h.drewN k) (d.drewN k) ok T at_ o
  have RO : Hid _ := fun (o : s.on = false) k => read_off (w.drewN k) pa p q N s ar _ (h.drewN k) (d.drewN k) ok at_ hat o
  have HA : Hid _ := h
  have RR : Hid (∀ f, rdB s.sec (ar.first + at_) (ar.count - at_) = some f → f.life < 18446744073709551616 ∧ f.num < 4294967296) := fun f hf => by
    have := rdB_room d.ok.len d.ok.bys hf
    exact ⟨this.2.2.1, this.2.2.2.1⟩
  have LF : Hid _ := ok.lif
  clear h d ok T hl hi hr hps hat f1 f2
  go_enter Tryd.func11, Tryd.ntmps11
  go_wp2_with fail
  refine Calls.mono BS.out ?_
  rintro e w1 ⟨⟨j, b, rfl, h1, h2⟩, rfl⟩
  cases b with
  | false => exact absurd HI.out (h2 rfl i ML.out)
  | true =>
    obtain rfl := IX.out j (h1 rfl).1 (h1 rfl).2
    clear h1 h2 BS
    have D0 : Hid _ := DN.out 0
    by_cases hv : s.lives = ar.lives
    · have dl : ((s.lives : Int) != (ar.lives : Int)) = false := by rw [bne_eq_false_iff_eq]; omega
      rw [dl] at D0
      clear dl DN
      go_wp2_with (go_at_call 33; refine Calls.mono D0.out ?_; rintro e w1 ⟨rfl, k, rfl⟩)
      rcases Bool.eq_false_or_eq_true s.on with ho | ho
      · refine Calls.mono (RD.out ho k) ?_
        rintro e w2 ⟨rn, ry, b2⟩
        have B2 : Hid (Below w.heap.size w w2) := nextB (drewB (Below.refl _ _) k) b2
        cases hr : rdB s.sec (ar.first + at_) (ar.count - at_) with
        | none =>
          obtain rfl := rn hr
          have GG : Hid _ := gotG_none (i := j) hv ho hr
          clear rn ry b2 hr RD RO D0
          go_wp2
          refine bodyPost_ret (v := .tuple #[.int .u8 0, .slice none 0 0, .int .i64 3]) (by simp [results, Tryd.results11, go_sem]) rfl ?_
          rw [GG.out]
          exact GtP.no 3 (nextB B2.out (allocB _ _))
        | some f =>
          obtain ⟨g, c, rfl, yp, hg⟩ := ry f hr
          have GG : Hid _ := gotG_some (i := j) hv ho hr
          obtain ⟨f1, f2⟩ := RR.out f hr
          obtain ⟨kd, lf, nm, py⟩ := f
          have e4 : w2.cell? ⟨pa, 4, none⟩ = some (.int .u64 (ar.life : Nat)) := (b2.cell (p := ⟨pa, 4, none⟩) pl).trans c4
          have YP : Hid _ := yp
          have HG : Hid _ := hg
          have pl2 : pa < w2.heap.size := Nat.lt_of_lt_of_le pl b2.size
          have wk : IntKind.u32.wrap (j : Int) = (j : Int) := by rw [IntKind.wrap_u32]; omega
          clear rn ry b2 hr RD RO D0 yp hg c4 c5
          dsimp only at f1 f2
          dsimp only
          go_upto_region 9 with fail
          have n0 : (w2.alloc (.cells #[.int .u8 kd, .int .u64 (lf : Nat), .int .u32 (nm : Nat), .slice (some ⟨g, 0, none⟩) py.length c] 75)).cell? ⟨w2.heap.size, 0, none⟩ = some (.int .u8 kd) := by rw [cell_of_row _ _ _ _ _ _ (heap_alloc_last w2 _)]; rfl
          have n1 : (w2.alloc (.cells #[.int .u8 kd, .int .u64 (lf : Nat), .int .u32 (nm : Nat), .slice (some ⟨g, 0, none⟩) py.length c] 75)).cell? ⟨w2.heap.size, 1, none⟩ = some (.int .u64 (lf : Nat)) := by rw [cell_of_row _ _ _ _ _ _ (heap_alloc_last w2 _)]; rfl
          have n2 : (w2.alloc (.cells #[.int .u8 kd, .int .u64 (lf : Nat), .int .u32 (nm : Nat), .slice (some ⟨g, 0, none⟩) py.length c] 75)).cell? ⟨w2.heap.size, 2, none⟩ = some (.int .u32 (nm : Nat)) := by rw [cell_of_row _ _ _ _ _ _ (heap_alloc_last w2 _)]; rfl
          have n3 : (w2.alloc (.cells #[.int .u8 kd, .int .u64 (lf : Nat), .int .u32 (nm : Nat), .slice (some ⟨g, 0, none⟩) py.length c] 75)).cell? ⟨w2.heap.size, 3, none⟩ = some (.slice (some ⟨g, 0, none⟩) py.length c) := by rw [cell_of_row _ _ _ _ _ _ (heap_alloc_last w2 _)]; rfl
          have e5 : (w2.alloc (.cells #[.int .u8 kd, .int .u64 (lf : Nat), .int .u32 (nm : Nat), .slice (some ⟨g, 0, none⟩) py.length c] 75)).cell? ⟨pa, 4, none⟩ = some (.int .u64 (ar.life : Nat)) := ((allocB w2 (.cells #[.int .u8 kd, .int .u64 (lf : Nat), .int .u32 (nm : Nat), .slice (some ⟨g, 0, none⟩) py.length c] 75)).cell (p := ⟨pa, 4, none⟩) pl2).trans e4
          have B3 : Hid (Below w.heap.size w (w2.alloc (.cells #[.int .u8 kd, .int .u64 (lf : Nat), .int .u32 (nm : Nat), .slice (some ⟨g, 0, none⟩) py.length c] 75))) := nextB B2.out (allocB _ _)
          have Y3 : Hid (By (w2.alloc (.cells #[.int .u8 kd, .int .u64 (lf : Nat), .int .u32 (nm : Nat), .slice (some ⟨g, 0, none⟩) py.length c] 75)) (some ⟨g, 0, none⟩) py.length c py) := YP.out.below (allocB _ _)
          generalize w2.alloc (.cells #[.int .u8 kd, .int .u64 (lf : Nat), .int .u32 (nm : Nat), .slice (some ⟨g, 0, none⟩) py.length c] 75) = w3 at *
          have BF : Hid (w2.heap.size ≠ pa) := by show _ ≠ _; omega
          generalize w2.heap.size = Bf at *
          clear e4 pl2 YP B2
          by_cases q1 : lf = ar.life
          · have q1' : ((lf : Int) != (ar.life : Int)) = false := by rw [bne_eq_false_iff_eq]; omega
            by_cases q2 : nm = j
            · have q2' : ((nm : Int) != (j : Int)) = false := by rw [bne_eq_false_iff_eq]; omega
              have G2 : Hid _ := GG.out.trans (if_pos ⟨q1, q2⟩)
              clear q1 q2 GG
              go_quiet (fail)
              go_wp2_with fail
              go_quiet (fail)
              go_wp2
              refine bodyPost_ret (v := .tuple #[.int .u8 kd, .slice (some ⟨g, 0, none⟩) py.length c, .int .i64 0]) (by simp [results, Tryd.results11, go_sem]) rfl ?_
              rw [G2.out]
              exact ⟨⟨_, _, rfl, Y3.out.below (drewB (drewB (Below.refl _ _) _) _), fun x hx => by cases hx; exact HG.out⟩, drewB (drewB B3.out _) _⟩
            · have q2' : ((nm : Int) != (j : Int)) = true := by rw [bne_iff_ne]; omega
              have G2 : Hid _ := GG.out.trans (if_neg (fun h => q2 h.2))
              clear q1 q2 GG
              go_quiet (fail)
              go_wp2
              refine bodyPost_ret (v := .tuple #[.int .u8 0, .slice none 0 0, .int .i64 3]) (by simp [results, Tryd.results11, go_sem]) rfl ?_
              rw [G2.out]
              exact GtP.no 3 (drewB B3.out _)
          · have q1' : ((lf : Int) != (ar.life : Int)) = true := by rw [bne_iff_ne]; omega
            have G2 : Hid _ := GG.out.trans (if_neg (fun h => q1 h.1))
            clear q1 GG
            go_quiet (fail)
            go_wp2
            refine bodyPost_ret (v := .tuple #[.int .u8 0, .slice none 0 0, .int .i64 3]) (by simp [results, Tryd.results11, go_sem]) rfl ?_
            rw [G2.out]
            exact GtP.no 3 (drewB B3.out _)
      · refine Calls.mono (RO.out ho k) ?_
        rintro e w2 ⟨rfl, b2⟩
        have B2 : Hid (Below w.heap.size w w2) := nextB (drewB (Below.refl _ _) k) b2
        clear RD RO D0 b2
        go_wp2
        refine bodyPost_ret (v := .tuple #[.int .u8 0, .slice none 0 0, .int .i64 4]) (by simp [results, Tryd.results11, go_sem]) rfl ?_
        rw [gotG_off ho]
        exact GtP.no 4 (nextB B2.out (allocB _ _))
    · have dl : ((s.lives : Int) != (ar.lives : Int)) = true := by rw [bne_iff_ne]; omega
      rw [dl] at D0
      go_wp2_with (go_at_call 33; refine Calls.mono D0.out ?_; rintro e w1 ⟨rfl, k, rfl⟩)
      refine bodyPost_ret (v := .tuple #[.int .u8 0, .slice none 0 0, .int .i64 4]) (by simp [results, Tryd.results11, go_sem]) rfl ?_
      rw [gotG_over hv]
      exact GtP.no 4 (drewB (Below.refl _ _) _)

end Go.Proofs.YtblmfkdcahhhbaaDoor
