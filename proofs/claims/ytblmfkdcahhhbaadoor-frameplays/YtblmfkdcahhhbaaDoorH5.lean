/- The walk over package frame: an area's find. -/
import Derived.Test.YtblmfkdcahhhbaaDoorH4
namespace Go.Proofs.YtblmfkdcahhhbaaDoor
open Go.RowKit
set_option linter.unusedVariables false
set_option linter.unusedSimpArgs false

theorem read_any (w : World) (pa p q N : Nat) (s : St) (ar : Ar) (v : Value) (h : Am w pa p ar v) (d : Dk w p q N s) (ok : ArOk N ar) (T : Tab w) (at_ : Nat) (on : s.on = true) :
    Calls Tryd.prog 38 #[.pointer (some ⟨pa, 0, none⟩), .int .i64 (at_ : Nat)] w fun e w' => RdP w (rdB s.sec (ar.first + at_) (ar.count - at_)) e w' := by
  rcases Nat.lt_or_ge at_ ar.count with q1 | q1
  · exact read_on w pa p q N s ar v h d ok T at_ q1 on
  · have e : rdB s.sec (ar.first + at_) (ar.count - at_) = none := rdB_none (fun k => by have := k.2.2.1; have := fsize_pos (hN (s.sec (ar.first + at_))); omega)
    rw [e]
    exact read_far w pa p ar v h at_ q1

/-- find under way. -/
structure FndI (w wr : World) (pa p N B0 : Nat) (sec : Nat → List Int) (ar : Ar) (v : Value) (fuel : Nat) (R : Nat × List Fa) : Prop where
  am : Am wr pa p ar v
  nb : ∀ g, v.ownBlock = some g → B0 ≤ g
  bel : Below B0 w wr
  fn : fnd sec ar.first ar.count fuel ar.life ar.fs = R
  fu : ar.count ≤ fuel + used ar.fs
  ok : ArOk N ar
theorem rdB_room {sec : Nat → List Int} {i room : Nat} {f : Fr} (hl : ∀ j, (sec j).length = 64) (hb : ∀ j, Bys (sec j)) (h : rdB sec i room = some f) : fsize f.pay.length ≤ room ∧ f.pay.length ≤ 1000 ∧ f.life < 18446744073709551616 ∧ f.num < 4294967296 ∧ (0 ≤ f.kind ∧ f.kind < 256) ∧ Bys f.pay := by
  obtain ⟨g, rfl⟩ := rdB_some h
  have e := payB_len hl i
  refine ⟨by show fsize (payB sec i).length ≤ room; rw [e]; exact g.2.2.1, by show (payB sec i).length ≤ 1000; rw [e]; exact g.2.1, ?_, ?_, (hb i).getD 1, payB_ok hb i⟩
  · have := upB_lt (seg (sec i) 2 8) (seg_ok (hb i) 2 8)
    rw [seg_len (by rw [hl]; decide)] at this
    exact this
  · have := upB_lt (seg (sec i) 10 4) (seg_ok (hb i) 10 4)
    rw [seg_len (by rw [hl]; decide)] at this
    exact this
theorem set4_life {w : World} {pa p : Nat} {ar : Ar} {v : Value} (h : Am w pa p ar v) (l : Nat) : Am (w.setCell ⟨pa, 4, none⟩ (.int .u64 (l : Nat))) pa p { ar with life := l } v := by
  refine ⟨?_, ?_, ?_, ?_, World.cell?_setCell_same _ _ _ h.c4, ?_, ?_, h.own.kept (grownSet w pa 4 _) (Or.inr h.nv), fun o => by simpa using h.fz o, h.nv⟩
  · rw [cell_set_ne _ (by decide)]; exact h.c0
  · rw [cell_set_ne _ (by decide)]; exact h.c1
  · rw [cell_set_ne _ (by decide)]; exact h.c2
  · rw [cell_set_ne _ (by decide)]; exact h.c3
  · rw [cell_set_ne _ (by decide)]; exact h.c5
  · rw [cell_set_ne _ (by decide)]; exact h.c6

set_option maxRecDepth 100000 in
set_option maxHeartbeats 8000000 in
theorem find_any (w : World) (pa p q N B0 : Nat) (s : St) (ar : Ar) (h : Am w pa p ar (.slice none 0 0)) (hfs : ar.fs = []) (hli : ar.life = 0) (d : Dk w p q N s) (ok : ArOk N ar) (T : Tab w) (on : s.on = true) (hb : B0 ≤ pa) (hB : B0 ≤ w.heap.size) (hp : p < B0) (hq : q < B0) (hB1 : 0 < B0) :
    Calls Tryd.prog 32 #[.pointer (some ⟨pa, 0, none⟩)] w fun e w' => e = .returned (.int .i64 0) ∧ ∃ v', Am w' pa p { ar with life := (fnd s.sec ar.first ar.count ar.count 0 []).1, fs := (fnd s.sec ar.first ar.count ar.count 0 []).2 } v' ∧ (∀ g, v'.ownBlock = some g → B0 ≤ g) ∧ Below B0 w w' := by
  obtain ⟨R, hR⟩ : ∃ R, R = fnd s.sec ar.first ar.count ar.count 0 [] := ⟨_, rfl⟩
  rw [← hR]
  have I0 : Hid (FndI w w pa p N B0 s.sec ar (.slice none 0 0) ar.count R) := ⟨h, fun g hg => by simp [Value.ownBlock] at hg, Below.refl _ _, by rw [hR, hfs, hli], by omega, ok⟩
  have D : Hid _ := d
  have TT : Hid (Tab w) := T
  have OO : Hid _ := on
  have HH : Hid (B0 ≤ pa ∧ p < B0 ∧ q < B0 ∧ 0 < B0 ∧ B0 ≤ w.heap.size) := ⟨hb, hp, hq, hB1, hB⟩
  obtain ⟨fi, co, li, fs, lv⟩ := ar
  clear h ok T on d hR hfs hli
  go_enter Tryd.func32, Tryd.ntmps32
  go_wp2_with fail
  go_loopg [] co (fun g wr => ∃ (l : Nat) (fs : List Fa) (v : Value), Hid (FndI w wr pa p N B0 s.sec ⟨fi, co, l, fs, lv⟩ v g R))
  case atStart => exact ⟨_, _, _, I0.out⟩
  case round =>
    obtain ⟨l, fs, v, I⟩ := hrel
    have c6 := I.out.am.c6
    have DW : Hid (Dk wr p q N s) := D.out.kept (I.out.bel.block p HH.out.2.1) (I.out.bel.block q HH.out.2.2.1)
    have TW : Hid (Tab wr) := TT.out.below I.out.bel HH.out.2.2.2.1
    dsimp only at c6
    clear I0
    go_wp2_with fail
    refine Calls.mono (read_any wr pa p q N s ⟨fi, co, l, fs, lv⟩ v I.out.am DW.out I.out.ok TW.out (used fs) OO.out) ?_
    rintro e w1 ⟨rn, ry, b1⟩
    have B1 : Hid _ := b1
    dsimp only at rn ry
    cases hr : rdB s.sec (fi + used fs) (co - used fs) with
    | none =>
      obtain rfl := rn hr
      have RR : Hid (R = (l, fs)) := I.out.fn.symm.trans (fnd_none hr _)
      clear rn ry hr b1
      go_wp2
      go_ret
      refine ⟨rfl, v, ?_, I.out.nb, ?_⟩
      · rw [RR.out]; exact I.out.am.below (nextB B1.out (allocB _ _))
      · exact I.out.bel.trans ((nextB B1.out (allocB _ _)).mono (Nat.le_trans HH.out.2.2.2.2 I.out.bel.size))
    | some f =>
      obtain ⟨g, c, rfl, yp, hg⟩ := ry f hr
      have RM : Hid _ := rdB_room DW.out.ok.len DW.out.ok.bys hr
      obtain ⟨kd, lf, nm, py⟩ := f
      have HR : Hid _ := hr
      obtain ⟨a, cap, rfl, f1, f2, -⟩ := I.out.am.form
      have c5 : w1.cell? ⟨pa, 5, none⟩ = some (.slice a fs.length cap) := (b1.cell (p := ⟨pa, 5, none⟩) I.out.am.lt).trans I.out.am.c5
      have c4 : w1.cell? ⟨pa, 4, none⟩ = some (.int .u64 (l : Nat)) := (b1.cell (p := ⟨pa, 4, none⟩) I.out.am.lt).trans I.out.am.c4
      have pl : pa < w1.heap.size := Nat.lt_of_lt_of_le I.out.am.lt b1.size
      dsimp only at f1 f2
      have fl : (fs.length : Int) ≤ 4096 := by have := I.out.ok.len; dsimp only at this; omega
      clear rn ry hr b1 yp hg f1 f2
      dsimp only
      go_upto_region 7 with fail
      have n1 : (w1.alloc (.cells #[.int .u8 kd, .int .u64 (lf : Nat), .int .u32 (nm : Nat), .slice (some ⟨g, 0, none⟩) py.length c] 75)).cell? ⟨w1.heap.size, 1, none⟩ = some (.int .u64 (lf : Nat)) := by rw [cell_of_row _ _ _ _ _ _ (heap_alloc_last w1 _)]; rfl
      have n2 : (w1.alloc (.cells #[.int .u8 kd, .int .u64 (lf : Nat), .int .u32 (nm : Nat), .slice (some ⟨g, 0, none⟩) py.length c] 75)).cell? ⟨w1.heap.size, 2, none⟩ = some (.int .u32 (nm : Nat)) := by rw [cell_of_row _ _ _ _ _ _ (heap_alloc_last w1 _)]; rfl
      have n3 : (w1.alloc (.cells #[.int .u8 kd, .int .u64 (lf : Nat), .int .u32 (nm : Nat), .slice (some ⟨g, 0, none⟩) py.length c] 75)).cell? ⟨w1.heap.size, 3, none⟩ = some (.slice (some ⟨g, 0, none⟩) py.length c) := by rw [cell_of_row _ _ _ _ _ _ (heap_alloc_last w1 _)]; rfl
      have B2 : Hid (Below wr.heap.size wr (w1.alloc (.cells #[.int .u8 kd, .int .u64 (lf : Nat), .int .u32 (nm : Nat), .slice (some ⟨g, 0, none⟩) py.length c] 75))) := nextB B1.out (allocB _ _)
      generalize w1.alloc (.cells #[.int .u8 kd, .int .u64 (lf : Nat), .int .u32 (nm : Nat), .slice (some ⟨g, 0, none⟩) py.length c] 75) = w2 at *
      have e4 : w2.cell? ⟨pa, 4, none⟩ = some (.int .u64 (l : Nat)) := (B2.out.cell (p := ⟨pa, 4, none⟩) I.out.am.lt).trans I.out.am.c4
      have BF : Hid (w1.heap.size ≠ pa) := by show _ ≠ _; omega
      generalize w1.heap.size = Bf at *
      clear c4 c5 c6 pl B1
      have wk : IntKind.u32.wrap (fs.length : Int) = (fs.length : Int) := by rw [IntKind.wrap_u32]; omega
      go_cut [42] from 6 to 53 (fun s wx => s = .bool (decide ((fs.length ≠ 0 ∧ lf ≠ l) ∨ nm ≠ fs.length)) ∧ ∃ k, wx = w2.drewN k)
      case first =>
        rcases Nat.eq_zero_or_pos fs.length with k0 | kp
        · obtain rfl := List.length_eq_zero_iff.1 k0
          clear k0
          by_cases e2 : nm = 0
          · subst e2
            go_quiet (fail)
            go_wp2
            go_meet
            case rel => exact ⟨by simp, _, rfl⟩
          · have e2' : ((nm : Int) != 0) = true := by rw [bne_iff_ne]; omega
            go_quiet (fail)
            go_wp2
            go_meet
            case rel => exact ⟨by simp [e2], _, rfl⟩
        · have kp' : (0 : Int) < (fs.length : Int) := by omega
          by_cases e1 : lf = l
          · subst e1
            by_cases e2 : nm = fs.length
            · have e2' : ((nm : Int) != (fs.length : Int)) = false := by rw [bne_eq_false_iff_eq]; omega
              have DC : Hid (decide ((fs.length ≠ 0 ∧ lf ≠ lf) ∨ nm ≠ fs.length) = false) := decide_eq_false (by omega)
              clear e2
              go_quiet (fail)
              go_wp2
              go_meet
              case rel => exact ⟨by rw [DC.out], _, rfl⟩
            · have e2' : ((nm : Int) != (fs.length : Int)) = true := by rw [bne_iff_ne]; omega
              have DC : Hid (decide ((fs.length ≠ 0 ∧ lf ≠ lf) ∨ nm ≠ fs.length) = true) := decide_eq_true (by omega)
              clear e2
              go_quiet (fail)
              go_wp2
              go_meet
              case rel => exact ⟨by rw [DC.out], _, rfl⟩
          · have e1' : ((lf : Int) != (l : Int)) = true := by rw [bne_iff_ne]; omega
            have DC : Hid (decide ((fs.length ≠ 0 ∧ lf ≠ l) ∨ nm ≠ fs.length) = true) := decide_eq_true (by omega)
            clear e1
            go_quiet (fail)
            go_wp2
            go_meet
            case rel => exact ⟨by rw [DC.out], _, rfl⟩
      case rest =>
        obtain ⟨rfl, kk, rfl⟩ := hcut
        have m1 : (w2.drewN kk).cell? ⟨Bf, 1, none⟩ = some (.int .u64 (lf : Nat)) := n1
        have m3 : (w2.drewN kk).cell? ⟨Bf, 3, none⟩ = some (.slice (some ⟨g, 0, none⟩) py.length c) := n3
        have m4 : (w2.drewN kk).cell? ⟨pa, 4, none⟩ = some (.int .u64 (l : Nat)) := e4
        have B3 : Hid (Below wr.heap.size wr (w2.drewN kk)) := nextB B2.out ⟨rfl, rfl, rfl, Nat.le_refl _, fun _ _ => rfl⟩
        have A3 : Hid _ := I.out.am.below B3.out
        have fz := A3.out.fz
        clear n1 n2 n3 e4 B2 wk
        generalize w2.drewN kk = w3 at *
        by_cases bad : (fs.length ≠ 0 ∧ lf ≠ l) ∨ nm ≠ fs.length
        · have RR : Hid (R = (l, fs)) := I.out.fn.symm.trans (fnd_no HR.out (by dsimp only; omega) _)
          have dt : decide ((fs.length ≠ 0 ∧ lf ≠ l) ∨ nm ≠ fs.length) = true := decide_eq_true bad
          rw [dt]
          clear dt bad
          go_wp2
          go_ret
          refine ⟨rfl, _, ?_, I.out.nb, ?_⟩
          · rw [RR.out]; exact A3.out
          · exact I.out.bel.trans (B3.out.mono (Nat.le_trans HH.out.2.2.2.2 I.out.bel.size))
        · have dt : decide ((fs.length ≠ 0 ∧ lf ≠ l) ∨ nm ≠ fs.length) = false := decide_eq_false bad
          rw [dt]
          obtain ⟨r1, r2, r3, r4, r5, r6⟩ := RM.out
          dsimp only at r1 r2 r3
          obtain ⟨fk, hfk⟩ : ∃ fk, gk = fk + 1 := ⟨gk - 1, by have h1 := I.out.fu; have h2 := fsize_pos py.length; dsimp only at h1; omega⟩
          have FN : Hid (fnd s.sec fi co fk lf (fs ++ [⟨used fs, kd, py⟩]) = R) := by
            have := I.out.fn
            rw [hfk] at this
            dsimp only at this
            rw [fnd_yes HR.out (by dsimp only; omega)] at this
            exact this
          have A4 : Hid _ := set4_life A3.out lf
          have OK4 : Hid (ArOk N ⟨fi, co, lf, fs, lv⟩) := ⟨I.out.ok.fit, I.out.ok.far, I.out.ok.big, r3, I.out.ok.liv⟩
          have OK5 : Hid (ArOk N ⟨fi, co, lf, fs ++ [⟨used fs, kd, py⟩], lv⟩) := ⟨by show used (fs ++ [_]) ≤ co; rw [used_snoc]; have := I.out.ok.fit; dsimp only at this; show used fs + fsize py.length ≤ co; omega, I.out.ok.far, I.out.ok.big, r3, I.out.ok.liv⟩
          have FU : Hid (co ≤ fk + used (fs ++ [⟨used fs, kd, py⟩])) := by show _ ≤ _; rw [used_snoc]; have h1 := I.out.fu; have h2 := fsize_pos py.length; dsimp only at h1 ⊢; omega
          have pn : ¬ Bf = pa := BF.out
          have SZ : Hid _ := fun W => Size_any py.length W r2
          have FS5 : Hid (fsize py.length ≤ 17) := fsize_le r2
          have HF : Hid (gk = fk + 1) := hfk
          clear dt bad r1 r3 r4 r5 r6 hfk
          go_wp2_with (first | (go_at_call 13; refine Calls.mono (SZ.out _) ?_; rintro e w5 ⟨rfl, rfl⟩) | (go_at_call 36; refine Calls.mono (take_any _ pa p (fsize py.length) N ⟨fi, co, lf, fs, lv⟩ _ ⟨used fs, kd, py⟩ A4.out OK4.out rfl rfl (by have := FS5.out; omega)) ?_; rintro e w6 ⟨rfl, v6, a6, ch6, nb6⟩))
          go_roundg fk
          case measure => have := HF.out; omega
          case rel =>
            have hsz : B0 ≤ w3.heap.size := Nat.le_trans (Nat.le_trans HH.out.2.2.2.2 I.out.bel.size) B3.out.size
            refine ⟨lf, _, v6, a6, fun g hg => ?_, ?_, FN.out, FU.out, OK5.out⟩
            · rcases nb6 with e | ⟨g', e, hg'⟩
              · exact I.out.nb g (by rw [← e]; exact hg)
              · rw [e] at hg; cases hg; simp at hg'; omega
            · refine ch6.below ((I.out.bel.trans (B3.out.mono (Nat.le_trans HH.out.2.2.2.2 I.out.bel.size))).setCell (p := ⟨pa, 4, none⟩) HH.out.1 _) (by simpa using hsz) (fun x hx => ?_)
              rcases List.mem_cons.1 hx with rfl | hx
              · exact HH.out.1
              · exact I.out.nb x (vb_mem.1 hx)

end Go.Proofs.YtblmfkdcahhhbaaDoor
