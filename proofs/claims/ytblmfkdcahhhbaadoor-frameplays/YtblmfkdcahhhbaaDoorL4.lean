/- The walk over the reference's OpenArea. -/
import Derived.Test.YtblmfkdcahhhbaaDoorL3
namespace Go.Proofs.YtblmfkdcahhhbaaDoor
open Go.RowKit
set_option linter.unusedVariables false
set_option linter.unusedSimpArgs false

theorem frameInfo : (Tryd.prog.info? 89).map (fun i => (i.zero, i.size, i.bytes)) = some (some (.agg #[.int .i64 0, .int .u8 0, .string ByteArray.empty]), 3, 32) := by kernel_rfl
/-- Frames that keep to their bounds. -/
def FaOk (fs : List Fa) : Prop := ∀ f ∈ fs, f.pay.length ≤ 1000 ∧ (0 ≤ f.kind ∧ f.kind < 256) ∧ Bys f.pay
theorem FaOk.nil : FaOk [] := fun f h => by cases h
theorem FaOk.snoc {fs : List Fa} {f : Fa} (h : FaOk fs) (h1 : f.pay.length ≤ 1000) (h2 : 0 ≤ f.kind ∧ f.kind < 256) (h3 : Bys f.pay) : FaOk (fs ++ [f]) := fun x hx => by
  rcases List.mem_append.1 hx with k | k
  · exact h x k
  · rw [List.mem_singleton] at k; subst k; exact ⟨h1, h2, h3⟩
theorem Bm.life {w : World} {pb p : Nat} {ar : Ar} {v : Value} (h : Bm w pb p ar v) (l : Nat) : Bm (w.setCell ⟨pb, 3, none⟩ (.int .u64 (l : Nat))) pb p { ar with life := l } v := by
  refine ⟨?_, ?_, ?_, World.cell?_setCell_same _ _ _ h.c3, ?_, ?_, h.own.kept (grownSet w pb 3 _) (Or.inr h.nv), fun o => by simpa using h.fz o, h.nv⟩
  · rw [cell_set_ne _ (by decide)]; exact h.c0
  · rw [cell_set_ne _ (by decide)]; exact h.c1
  · rw [cell_set_ne _ (by decide)]; exact h.c2
  · rw [cell_set_ne _ (by decide)]; exact h.c4
  · rw [cell_set_ne _ (by decide)]; exact h.c5
theorem Bm.next {w x5 x6 : World} {pb p : Nat} {ar : Ar} {v : Value} {f : Fa} (h : Bm w pb p ar v) (b : Below w.heap.size w x5)
    {g6 cap6 : Nat} (o6 : x6.ownsRow 0 89 3 (.slice (some ⟨g6, 0, none⟩) (ar.fs.length + 1) cap6) (ar.fs.length + 1) (faCs ar.fs ++ faC f)) (gr : x5.grownBy x6 v.ownBlock) (hat : v.ownBlock = some g6 ∨ g6 = x5.heap.size) :
    (∀ o, x6.cell? ⟨pb, o, none⟩ = w.cell? ⟨pb, o, none⟩) ∧ (∀ o, x6.frozen? ⟨pb, o, none⟩ = false) ∧
    Bm (x6.setCell ⟨pb, 4, none⟩ (.slice (some ⟨g6, 0, none⟩) (ar.fs.length + 1) cap6)) pb p { ar with fs := ar.fs ++ [f] } (.slice (some ⟨g6, 0, none⟩) (ar.fs.length + 1) cap6) ∧ Ch1 (pb :: vb v) w (x6.setCell ⟨pb, 4, none⟩ (.slice (some ⟨g6, 0, none⟩) (ar.fs.length + 1) cap6)) ∧ (v.ownBlock = some g6 ∨ w.heap.size ≤ g6) := by
  have hlt := h.lt
  have hs := b.size
  have hp : x6.heap[pb]? = w.heap[pb]? := by rw [gr.block pb (by omega) (fun e => h.nv e.symm), b.block pb hlt]
  have cp : ∀ o, x6.cell? ⟨pb, o, none⟩ = w.cell? ⟨pb, o, none⟩ := fun o => World.cell?_of_block (w := w) (a := ⟨pb, o, none⟩) hp
  have fp : ∀ o, x6.frozen? ⟨pb, o, none⟩ = false := fun o => by rw [World.frozen?_of_block (w := w) (a := ⟨pb, o, none⟩) hp]; exact h.fz o
  have g6n : g6 ≠ pb := by
    rcases hat with e | e
    · exact fun c => h.nv (by rw [e, c])
    · omega
  refine ⟨cp, fp, ⟨?_, ?_, ?_, ?_, ?_, ?_, ?_, fun o => by simpa using fp o, ?_⟩, ?_, ?_⟩
  · rw [cell_set_ne _ (by decide), cp]; exact h.c0
  · rw [cell_set_ne _ (by decide), cp]; exact h.c1
  · rw [cell_set_ne _ (by decide), cp]; exact h.c2
  · rw [cell_set_ne _ (by decide), cp]; exact h.c3
  · exact World.cell?_setCell_same _ _ _ ((cp 4).trans h.c4)
  · rw [cell_set_ne _ (by decide), cp]; exact h.c5
  · show World.ownsRow _ 0 _ 3 _ (ar.fs ++ [f]).length (faCs (ar.fs ++ [f]))
    rw [List.length_append, faCs_snoc]
    have nn : Value.ownBlock (.slice (some ⟨g6, 0, none⟩) (ar.fs.length + 1) cap6) ≠ some pb := fun c => g6n (by simpa [Value.ownBlock] using c)
    exact o6.kept (grownSet x6 pb 4 _) (Or.inr nn)
  · exact fun c => g6n (by simpa [Value.ownBlock] using c)
  · refine ((Ch1.of_below b).trans (Ch1.grown gr (fun r e => ?_))).trans (Ch1.set _ _ _ _ (by simp))
    exact List.mem_cons_of_mem _ (vb_mem.2 e)
  · rcases hat with e | e
    · exact Or.inl e
    · exact Or.inr (by omega)
theorem Bm.new (w : World) (p lv fi co : Nat) : Bm (w.alloc (.cells #[.pointer (some ⟨p, 0, none⟩), .int .i64 (fi : Nat), .int .i64 (co : Nat), .int .u64 0, .slice none 0 0, .int .i64 (lv : Nat)] 50)) w.heap.size p ⟨fi, co, 0, [], lv⟩ (.slice none 0 0) := by
  have bp := heap_alloc_last w (.cells #[.pointer (some ⟨p, 0, none⟩), .int .i64 (fi : Nat), .int .i64 (co : Nat), .int .u64 0, .slice none 0 0, .int .i64 (lv : Nat)] 50)
  exact ⟨by rw [cell_of_row _ _ _ _ _ _ bp]; rfl, by rw [cell_of_row _ _ _ _ _ _ bp]; rfl, by rw [cell_of_row _ _ _ _ _ _ bp]; rfl, by rw [cell_of_row _ _ _ _ _ _ bp]; rfl, by rw [cell_of_row _ _ _ _ _ _ bp]; rfl, by rw [cell_of_row _ _ _ _ _ _ bp]; rfl, World.ownsRow_nil _ _ _ _, fun o => frozen_of_row _ _ _ _ _ bp, by simp [Value.ownBlock]⟩

set_option maxHeartbeats 2000000 in
theorem kOpen_no (w : World) (p q n : Nat) (s : St) (d : Kk w p q n s) (fi co : Int) (hn : n ≤ 4096) (h : fi < 0 ∨ co < 1 ∨ (n : Int) < fi + co) :
    Calls Tryd.prog 16 #[.pointer (some ⟨p, 0, none⟩), .int .i64 fi, .int .i64 co] w fun e w' => e = .returned (.tuple #[.pointer none, .int .i64 1]) ∧ w = w' := by
  obtain ⟨cap, c0, hc1, hc2⟩ := d.c0
  have hn' : (n : Int) ≤ 4096 := by omega
  clear d hc1 hc2
  by_cases h0 : fi < 0
  · clear h
    go_enter Tryd.func16, Tryd.ntmps16
    go_wp2
    go_ret2
    exact ⟨rfl, rfl⟩
  · by_cases h1 : co < 1
    · clear h
      go_enter Tryd.func16, Tryd.ntmps16
      go_wp2
      go_ret2
      exact ⟨rfl, rfl⟩
    · by_cases h4 : (n : Int) < co
      · clear h
        go_enter Tryd.func16, Tryd.ntmps16
        go_wp2
        go_ret2
        exact ⟨rfl, rfl⟩
      · have h2 : (n : Int) - co < fi := by omega
        have h3 : (1 : Int) ≤ co := by omega
        have h5 : co ≤ 4096 := by omega
        clear h
        go_enter Tryd.func16, Tryd.ntmps16
        go_wp2
        go_ret2
        exact ⟨rfl, rfl⟩
set_option maxHeartbeats 2000000 in
theorem kOpen_off (w : World) (p q n : Nat) (s : St) (d : Kk w p q n s) (fi co : Nat) (hn : n ≤ 4096) (h1 : 1 ≤ co) (h2 : fi + co ≤ n) (on : s.on = false) :
    Calls Tryd.prog 16 #[.pointer (some ⟨p, 0, none⟩), .int .i64 (fi : Nat), .int .i64 (co : Nat)] w fun e w' => e = .returned (.tuple #[.pointer none, .int .i64 4]) ∧ w = w' := by
  obtain ⟨cap, c0, hc1, hc2⟩ := d.c0
  have c1 := d.c1
  have hn' : (n : Int) ≤ 4096 := by omega
  have e1 : ¬ (co : Int) < 1 := by omega
  have e2 : ¬ ((n : Int) - (co : Int) < (fi : Int)) := by omega
  have e3 : (co : Int) ≤ 4096 := by omega
  have e4 : ¬ ((n : Int) < (co : Int)) := by omega
  rw [on] at c1
  clear d on hc1 hc2
  go_enter Tryd.func16, Tryd.ntmps16
  go_wp2
  go_ret2
  exact ⟨rfl, rfl⟩

/-- The reference's find under way. -/
structure BFnd (w wr : World) (pb p N B0 : Nat) (sec : Nat → List Int) (ar : Ar) (v : Value) (fuel : Nat) (R : Nat × List Fa) : Prop where
  am : Bm wr pb p ar v
  nb : ∀ g, v.ownBlock = some g → B0 ≤ g
  bel : Below B0 w wr
  fn : fnd sec ar.first ar.count fuel ar.life ar.fs = R
  fu : ar.count ≤ fuel + used ar.fs
  ok : ArOk N ar
  sm : FaOk ar.fs

set_option maxRecDepth 100000 in
set_option maxHeartbeats 8000000 in
theorem kOpen_yes (w : World) (p q n : Nat) (s : St) (d : Kk w p q n s) (fi co : Nat) (hn : n ≤ 4096) (h1 : 1 ≤ co) (h2 : fi + co ≤ n) (on : s.on = true) (hv : s.lives ≤ 1000000) :
    Calls Tryd.prog 16 #[.pointer (some ⟨p, 0, none⟩), .int .i64 (fi : Nat), .int .i64 (co : Nat)] w fun e w' => ∃ v, e = .returned (.tuple #[.pointer (some ⟨w.heap.size, 0, none⟩), .int .i64 0]) ∧ Bm w' w.heap.size p (opn s fi co) v ∧ (∀ g, v.ownBlock = some g → w.heap.size ≤ g) ∧ Below w.heap.size w w' ∧ FaOk (opn s fi co).fs := by
  obtain ⟨i0, hi, hz0, hz1, hz2⟩ := info_parts frameInfo
  obtain ⟨R, hR⟩ : ∃ R, R = fnd s.sec fi co co 0 [] := ⟨_, rfl⟩
  have HO : Hid (opn s fi co = ⟨fi, co, R.1, R.2, s.lives⟩) := by rw [hR]; rfl
  obtain ⟨cap, c0, hc1, hc2⟩ := d.c0
  have c1 := d.c1
  have c5 := d.c5
  have pl := d.ltp
  have hn' : (n : Int) ≤ 4096 := by omega
  have e1 : ¬ (co : Int) < 1 := by omega
  have e2 : ¬ ((n : Int) - (co : Int) < (fi : Int)) := by omega
  have e3 : (co : Int) ≤ 4096 := by omega
  have e4 : ¬ ((n : Int) < (co : Int)) := by omega
  have I0 : Hid (BFnd w (w.alloc (.cells #[.pointer (some ⟨p, 0, none⟩), .int .i64 (fi : Nat), .int .i64 (co : Nat), .int .u64 0, .slice none 0 0, .int .i64 (s.lives : Nat)] 50)) w.heap.size p n w.heap.size s.sec ⟨fi, co, 0, [], s.lives⟩ (.slice none 0 0) co R) :=
    ⟨Bm.new w p s.lives fi co, fun g hg => by simp [Value.ownBlock] at hg, allocB _ _, hR.symm, by show co ≤ co + _; omega, ⟨Nat.zero_le _, h2, hn, by show (0 : Nat) < 18446744073709551616; decide, hv⟩, FaOk.nil⟩
  have D : Hid _ := d
  have DP : Hid (p < w.heap.size ∧ q < w.heap.size) := ⟨d.ltp, d.ltq⟩
  rw [on] at c1
  rw [HO.out]
  clear HO
  generalize s.lives = lv at *
  clear d on hc1 hc2 hR hv h1 h2 hn
  go_enter Tryd.func16, Tryd.ntmps16
  go_wp2_with fail
  clear c0 c1 c5 e1 e2 e4 pl
  go_loopg [9] co (fun g sl wr => ∃ (l : Nat) (fs : List Fa) (v : Value), sl = .int .i64 (used fs : Nat) ∧ Hid (BFnd w wr w.heap.size p n w.heap.size s.sec ⟨fi, co, l, fs, lv⟩ v g R))
  case atStart => exact ⟨0, [], _, rfl, I0.out⟩
  case round =>
    obtain ⟨l, fs, v, rfl, I⟩ := hrel
    have DW : Hid (Kk wr p q n s) := D.out.kept (I.out.bel.block p DP.out.1) (I.out.bel.block q DP.out.2)
    clear I0
    go_wp2_with fail
    refine Calls.mono (Bread_any wr w.heap.size p q n s ⟨fi, co, l, fs, lv⟩ v I.out.am DW.out I.out.ok (used fs)) ?_
    rintro e w1 ⟨rn, ry, b1⟩
    have B1 : Hid _ := b1
    have HW : Hid (w.heap.size ≤ wr.heap.size) := I.out.bel.size
    dsimp only at rn ry
    cases hr : rdB s.sec (fi + used fs) (co - used fs) with
    | none =>
      obtain rfl := rn hr
      have RR : Hid (R = (l, fs)) := I.out.fn.symm.trans (fnd_none hr _)
      clear rn ry hr b1
      go_wp2
      go_ret2
      refine ⟨v, rfl, ?_, I.out.nb, ?_, ?_⟩
      · rw [RR.out]; exact I.out.am.below (nextB B1.out (allocB _ _))
      · exact I.out.bel.trans ((nextB B1.out (allocB _ _)).mono HW.out)
      · rw [RR.out]; exact I.out.sm
    | some f =>
      obtain rfl := ry f hr
      have RM : Hid _ := rdB_room DW.out.ok.len DW.out.ok.bys hr
      obtain ⟨kd, lf, nm, py⟩ := f
      have HR : Hid _ := hr
      obtain ⟨a, cap2, rfl, f1, f2, -⟩ := I.out.am.form
      clear rn ry hr b1 f1 f2
      dsimp only
      have HX : Hid (faC ⟨used fs, kd, py⟩ = [.int .i64 (used fs : Nat), .int .u8 kd, .string (strOfNums py)]) := rfl
      have sx : (strOfNums py).size = py.length := str_size _
      generalize strOfNums py = x at *
      go_upto_region 8 with fail
      have R2 : Hid (Boxed3 (w1.alloc (.cells #[.int .i64 (used fs : Nat), .int .u8 kd, .string x] 89)) w1.heap.size (.int .i64 (used fs : Nat)) (.int .u8 kd) (.string x)) := heap_alloc_last w1 _
      have B2 : Hid (Below wr.heap.size wr (w1.alloc (.cells #[.int .i64 (used fs : Nat), .int .u8 kd, .string x] 89))) := nextB B1.out (allocB _ _)
      have BF : Hid (wr.heap.size ≤ w1.heap.size) := B1.out.size
      generalize w1.alloc (.cells #[.int .i64 (used fs : Nat), .int .u8 kd, .string x] 89) = w2 at *
      clear B1
      generalize w1.heap.size = Bf at *
      have A2 : Hid _ := I.out.am.below B2.out
      have e3 : w2.cell? ⟨w.heap.size, 3, none⟩ = some (.int .u64 (l : Nat)) := A2.out.c3
      have e4 : w2.cell? ⟨w.heap.size, 4, none⟩ = some (.slice a fs.length cap2) := A2.out.c4
      have pl := A2.out.lt
      have fl : (fs.length : Int) ≤ 4096 := by have := I.out.ok.len; dsimp only at this; omega
      have wk : IntKind.u64.wrap (fs.length : Int) = (fs.length : Int) := by rw [IntKind.wrap_u64]; omega
      go_cut [88] from 53 to 88 (fun s wx => s = .bool (decide ((fs.length ≠ 0 ∧ lf ≠ l) ∨ nm ≠ fs.length)) ∧ wx = w2)
      case first =>
        clear HX sx
        by_cases q2 : nm = fs.length
        · have q2' : ((nm : Int) != (fs.length : Int)) = false := by rw [bne_eq_false_iff_eq]; omega
          rcases Nat.eq_zero_or_pos fs.length with k0 | kp
          · have kz : ¬ (0 : Int) < (fs.length : Int) := by omega
            have DC : Hid (decide ((fs.length ≠ 0 ∧ lf ≠ l) ∨ nm ≠ fs.length) = false) := decide_eq_false (by omega)
            clear k0 q2
            go_wp2
            go_meet
            case rel => exact ⟨by rw [DC.out], rfl⟩
          · have kp' : (0 : Int) < (fs.length : Int) := by omega
            by_cases q1 : lf = l
            · have q1' : ((lf : Int) != (l : Int)) = false := by rw [bne_eq_false_iff_eq]; omega
              have DC : Hid (decide ((fs.length ≠ 0 ∧ lf ≠ l) ∨ nm ≠ fs.length) = false) := decide_eq_false (by omega)
              clear q1 q2
              go_wp2
              go_meet
              case rel => exact ⟨by rw [DC.out], rfl⟩
            · have q1' : ((lf : Int) != (l : Int)) = true := by rw [bne_iff_ne]; omega
              have DC : Hid (decide ((fs.length ≠ 0 ∧ lf ≠ l) ∨ nm ≠ fs.length) = true) := decide_eq_true (by omega)
              clear q1 q2
              go_wp2
              go_meet
              case rel => exact ⟨by rw [DC.out], rfl⟩
        · have q2' : ((nm : Int) != (fs.length : Int)) = true := by rw [bne_iff_ne]; omega
          have DC : Hid (decide ((fs.length ≠ 0 ∧ lf ≠ l) ∨ nm ≠ fs.length) = true) := decide_eq_true (by omega)
          clear q2
          go_wp2
          go_meet
          case rel => exact ⟨by rw [DC.out], rfl⟩
      case rest =>
        obtain ⟨rfl, hw⟩ := hcut
        have hw' := hw.symm
        clear hw
        subst hw'
        by_cases bad : (fs.length ≠ 0 ∧ lf ≠ l) ∨ nm ≠ fs.length
        · have RR : Hid (R = (l, fs)) := I.out.fn.symm.trans (fnd_no HR.out (by dsimp only; omega) _)
          have dt : decide ((fs.length ≠ 0 ∧ lf ≠ l) ∨ nm ≠ fs.length) = true := decide_eq_true bad
          rw [dt]
          clear dt bad
          go_wp2
          go_ret2
          refine ⟨rfl, .slice a fs.length cap2, ?_, I.out.nb, ?_, ?_⟩
          · rw [RR.out]; exact A2.out
          · exact I.out.bel.trans (B2.out.mono HW.out)
          · rw [RR.out]; exact I.out.sm
        · have dt : decide ((fs.length ≠ 0 ∧ lf ≠ l) ∨ nm ≠ fs.length) = false := decide_eq_false bad
          rw [dt]
          obtain ⟨r1, r2, r3, r4, r5, r6⟩ := RM.out
          dsimp only at r1 r2 r3 r5 r6
          obtain ⟨fk, hfk⟩ : ∃ fk, gk = fk + 1 := ⟨gk - 1, by have h1 := I.out.fu; have h2 := fsize_pos py.length; dsimp only at h1; omega⟩
          have FN : Hid (fnd s.sec fi co fk lf (fs ++ [⟨used fs, kd, py⟩]) = R) := by
            have := I.out.fn
            rw [hfk] at this
            dsimp only at this
            rw [fnd_yes HR.out (by dsimp only; omega)] at this
            exact this
          have OK5 : Hid (ArOk n ⟨fi, co, lf, fs ++ [⟨used fs, kd, py⟩], lv⟩) := ⟨by show used (fs ++ [_]) ≤ co; rw [used_snoc]; have := I.out.ok.fit; dsimp only at this; show used fs + fsize py.length ≤ co; omega, I.out.ok.far, I.out.ok.big, r3, I.out.ok.liv⟩
          have FU : Hid (co ≤ fk + used (fs ++ [⟨used fs, kd, py⟩])) := by show _ ≤ _; rw [used_snoc]; have h1 := I.out.fu; have h2 := fsize_pos py.length; dsimp only at h1 ⊢; omega
          have SM : Hid (FaOk (fs ++ [⟨used fs, kd, py⟩])) := I.out.sm.snoc r2 r5 r6
          have SZ : Hid (∀ W, _) := fun W => kSize_any py.length W r2
          have fz17 : (fsize py.length : Int) ≤ 17 := by have := fsize_le r2; omega
          have us : (used fs : Int) ≤ 4096 := by have := I.out.ok.fit; dsimp only at this; omega
          have HF : Hid (gk = fk + 1) := hfk
          have UE : Hid ((used fs : Int) + (fsize py.length : Int) = ((used (fs ++ [⟨used fs, kd, py⟩]) : Nat) : Int)) := by show _ = _; rw [used_snoc]; exact (Int.natCast_add _ _).symm
          have LF : Hid (fs.length ≤ 4096) := I.out.ok.len
          have fz := A2.out.fz 3
          clear dt bad r1 r3 r4 r5 r6 hfk r2 wk
          go_upto_region 11 with fail
          have A4 : Hid _ := A2.out.life lf
          have pn : ¬ Bf = w.heap.size := by have := BF.out; have := I.out.am.lt; omega
          obtain ⟨k0, k1, k2, kf⟩ := Boxed3.cells R2.out
          have m0 : (w2.setCell ⟨w.heap.size, 3, none⟩ (.int .u64 (lf : Nat))).cell? ⟨Bf, 0, none⟩ = some (.int .i64 (used fs : Nat)) := by rw [cell_set_far _ (fun e => pn e.symm)]; exact k0
          have m1 : (w2.setCell ⟨w.heap.size, 3, none⟩ (.int .u64 (lf : Nat))).cell? ⟨Bf, 1, none⟩ = some (.int .u8 kd) := by rw [cell_set_far _ (fun e => pn e.symm)]; exact k1
          have m2 : (w2.setCell ⟨w.heap.size, 3, none⟩ (.int .u64 (lf : Nat))).cell? ⟨Bf, 2, none⟩ = some (.string x) := by rw [cell_set_far _ (fun e => pn e.symm)]; exact k2
          have SZ4 : Hid (w2.heap.size ≤ (w2.setCell ⟨w.heap.size, 3, none⟩ (.int .u64 (lf : Nat))).heap.size) := by show _ ≤ _; simp
          have B4 : Hid (Below w.heap.size w (w2.setCell ⟨w.heap.size, 3, none⟩ (.int .u64 (lf : Nat)))) := (I.out.bel.trans (B2.out.mono HW.out)).setCell (p := ⟨w.heap.size, 3, none⟩) (Nat.le_refl _) _
          have NB : Hid ((Value.slice a fs.length cap2).ownBlock ≠ some Bf) := fun e => by
            have := (owns_lt I.out.am.own e).1
            have := BF.out
            omega
          have LB : Hid (Bf < (w2.setCell ⟨w.heap.size, 3, none⟩ (.int .u64 (lf : Nat))).heap.size) := World.block_lt_of_cell? _ _ m0
          clear k0 k1 k2 kf e3 e4 fz A2 R2 pl
          generalize w2.setCell ⟨w.heap.size, 3, none⟩ (.int .u64 (lf : Nat)) = w4 at *
          have g4 := A4.out.c4
          have gf := A4.out.fz
          have pl := A4.out.lt
          dsimp only at g4
          go_region_law (first | (refine step_append_lies _ (by rfl) (.tmp 98) (.tmp 100) 48 (by rfl) 0 89 i0 _ 3 32 Tryd.underlying48 hi hz0 hz1 hz2 rfl (by decide) (.slice a fs.length cap2) fs.length (faCs fs) (by rfl) (ownsBelow A4.out.own ((allocB w4 (.cells #[.int .i64 (used fs : Nat), .int .u8 kd, .string x] 89)).drew)) ⟨w4.heap.size, 0, none⟩ 1 1 [.int .i64 (used fs : Nat), .int .u8 kd, .string x] (by rfl) rfl (World.news_of_block (heap_alloc_last w4 _)) (fun u hu => by simp at hu; rcases hu with rfl | rfl | rfl <;> rfl) (by decide) (by unfold maxLen; have := LF.out; omega) (by have := LF.out; omega) (Nat.zero_le _) _ rfl ?_; intro g6 cap6 x6 o6 gr6 hat6 _; rw [← HX.out] at o6; obtain ⟨j1, j2, j3, j4, j5⟩ := A4.out.next ((allocB w4 (.cells #[.int .i64 (used fs : Nat), .int .u8 kd, .string x] 89)).drew) o6 gr6 (by simpa using hat6); have NX : Hid _ := And.intro j3 (And.intro j4 j5); have e5 : x6.cell? ⟨w.heap.size, 4, none⟩ = some (.slice a fs.length cap2) := (j1 4).trans A4.out.c4; have e6 : x6.cell? ⟨Bf, 2, none⟩ = some (.string x) := (gr6.cell_far ⟨Bf, 2, none⟩ (by simp; have := LB.out; omega) (fun e => NB.out e.symm)).trans (((allocB w4 (.cells #[.int .i64 (used fs : Nat), .int .u8 kd, .string x] 89)).drew.cell (p := ⟨Bf, 2, none⟩) LB.out).trans m2); clear o6 gr6 hat6 j1 j3 j4 j5))
          all_goals go_wp2_with (go_at_call 41; refine Calls.mono (SZ.out _) ?_; rintro e w5 ⟨rfl, rfl⟩)
          all_goals
            go_roundg fk
            case measure => have := HF.out; omega
            case rel =>
              refine ⟨lf, _, _, by rw [UE.out], NX.out.1, fun g hg => ?_, ?_, FN.out, FU.out, OK5.out, SM.out⟩
              · rcases NX.out.2.2 with e | e
                · simp [Value.ownBlock] at hg; subst hg; exact I.out.nb _ e
                · simp [Value.ownBlock] at hg; subst hg; have := B4.out.size; omega
              · refine NX.out.2.1.below B4.out B4.out.size (fun y hy => ?_)
                rcases List.mem_cons.1 hy with rfl | hy
                · exact Nat.le_refl _
                · exact I.out.nb y (vb_mem.1 hy)

end Go.Proofs.YtblmfkdcahhhbaaDoor
