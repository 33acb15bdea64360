/- Proved: the law FrameRows of package publicanlaw5 returns true for every row of numbers and every byte, whatever memory it starts in, on every schedule; the table of package pack holds what the program's text lays (the card ties it to that text). -/
import Derived.Test.YtblmfkdcahhhbaaDoorCards
import Derived.Test.YtblmfkdcahhhbaaDoorTie
import Derived.Test.YtblmfkdcahhhbaaDoorJ4
namespace Go.Proofs.YtblmfkdcahhhbaaDoor.frameRows
open Go.ChangeShapes Go.WideShapes Go.ChangeAt Go.RowKit
set_option linter.unusedVariables false
set_option linter.unusedSimpArgs false


theorem zeros_ok (n : Nat) : Bys (List.replicate n 0) := fun x hx => by have := List.eq_of_mem_replicate hx; omega
theorem by_zeros (w : World) (n : Nat) (hn : n ≤ 100000) : By (w.alloc (.cells (vals (List.replicate n 0)).toArray 5)) (some ⟨w.heap.size, 0, none⟩) n n (List.replicate n 0) := by
  refine ⟨by simp, Nat.le_refl _, by unfold maxLen; omega, fun e => by simp at e, ⟨w.heap.size, 0, fun _ => rfl, fun i hi => ?_⟩, zeros_ok n⟩
  rw [cell_of_row _ _ _ _ _ _ (heap_alloc_last w _)]
  simp [vals, List.getD, hi]
/-- What the rounds keep. -/
structure Rw (s : St) (ar : Ar) (k at_ : Nat) : Prop where
  on : s.on = true
  lv : s.lives = 1
  lf : s.left = 0
  wr : s.writes ≤ 17 * k
  a1 : ar.first = 5
  a2 : ar.count = 50
  a3 : ar.life = 9
  a4 : ar.lives = 1
  us : used ar.fs = at_
  ok : ArOk 60 ar
  q : ∀ j, (s.sec j).getD 0 0 = 72 → hLife (s.sec j) = 9
theorem over_q {sec : Nat → List Int} (h : ∀ j, (sec j).getD 0 0 = 72 → hLife (sec j) = 9) (i : Nat) (kd : Int) (num : Nat) (b : List Int) (hn : num < 4294967296) (hb : b.length ≤ 1000) : ∀ j, (over sec i 0 (fsize b.length) (fsec kd 9 num b) j).getD 0 0 = 72 → hLife (over sec i 0 (fsize b.length) (fsec kd 9 num b) j) = 9 := fun j => by
  unfold over
  split
  · rename_i c
    cases e : j - i with
    | zero => exact fun _ => (lies_head rfl (by decide) hn hb).2.2.1
    | succ k =>
      intro e
      exact absurd e (show (67 : Int) ≠ 72 by decide)
  · exact h j
theorem Rw.yes {s : St} {ar : Ar} {k at_ : Nat} (h : Rw s ar k at_) (kd : Int) (b : List Int) (hb : b.length ≤ 1000) (hr : fsize b.length ≤ 50 - at_) : ∃ s' ar', addG 60 s ar kd b = ⟨(at_ : Nat), 0, s', ar'⟩ ∧ Rw s' ar' (k + 1) (at_ + fsize b.length) := by
  have e := addG_well (kd := kd) h.ok hb (by rw [h.lv, h.a4]) h.on (by rw [h.a2, h.us]; exact hr) (Or.inl h.lf)
  have o := h.ok.addG (s := s) kd b
  rw [e] at o
  rw [e, h.us]
  have ln := h.ok.len
  refine ⟨_, _, rfl, h.on, h.lv, by show s.left - _ = 0; rw [h.lf]; omega, ?_, h.a1, h.a2, h.a3, h.a4, ?_, ?_, ?_⟩
  · have := h.wr; have := fsize_le hb; show s.writes + fsize b.length ≤ 17 * (k + 1); omega
  · show used (ar.fs ++ [_]) = _; rw [used_snoc, h.us]
  · rw [h.us] at o; exact o
  · rw [h.a3]; exact over_q h.q _ kd _ b (by omega) hb
theorem Rw.no {s : St} {ar : Ar} {k at_ : Nat} (h : Rw s ar k at_) (kd : Int) (b : List Int) (hb : b.length ≤ 1000) (hr : 50 - at_ < fsize b.length) : addG 60 s ar kd b = ⟨0, 6, s, ar⟩ :=
  addG_full hb (by rw [h.lv, h.a4]) (by rw [h.a2, h.us]; exact hr)
theorem Rw.next {s : St} {ar : Ar} {k at_ : Nat} (h : Rw s ar k at_) : Rw s ar (k + 1) at_ := ⟨h.on, h.lv, h.lf, by have := h.wr; omega, h.a1, h.a2, h.a3, h.a4, h.us, h.ok, h.q⟩
theorem Rw.at50 {s : St} {ar : Ar} {k at_ : Nat} (h : Rw s ar k at_) : at_ ≤ 50 := by have := h.ok.fit; rw [h.us, h.a2] at this; exact this
theorem Rw.start : Rw fresh ⟨5, 50, 9, [], 1⟩ 0 0 := ⟨rfl, rfl, rfl, Nat.le_refl _, rfl, rfl, rfl, rfl, rfl, ⟨by decide, by decide, by decide, by decide, by decide⟩, fun j h => absurd h (fresh_head j)⟩
def new3 : List Int := [110, 101, 119]
theorem new3_ok : Bys new3 := fun x hx => by simp [new3] at hx; omega
/-- A new life behind old frames. -/
theorem Rw.newer {s : St} {ar : Ar} {k at_ : Nat} (h : Rw s ar k at_) : ∃ s', addG 60 s { ar with life := 10, fs := [] } 1 new3 = ⟨0, 0, s', ⟨5, 50, 10, [⟨0, 1, new3⟩], 1⟩⟩ ∧ s'.on = true ∧ s'.lives = 1 ∧ opn s' 5 50 = ⟨5, 50, 10, [⟨0, 1, new3⟩], 1⟩ := by
  obtain ⟨fi, co, li, fs, lv⟩ := ar
  obtain ⟨h1, h2, h3, h4, h5, h6, h7, h8, h9, h10, h11⟩ := h
  dsimp only at h5 h6 h7 h8
  subst h5; subst h6; subst h7; subst h8
  have e := addG_well (N := 60) (s := s) (ar := ⟨5, 50, 10, [], 1⟩) (kd := 1) (b := new3) ⟨by decide, by decide, by decide, by decide, by decide⟩ (by decide) h2 h1 (by decide) (Or.inl h3)
  have l := (Laid.nil s.sec 5 10).add 1 new3 (by decide)
  refine ⟨_, e, h1, h2, ?_⟩
  refine (l.opn (s := { s with sec := over s.sec (5 + used []) 0 (fsize new3.length) (fsec 1 10 [].length new3), writes := s.writes + fsize new3.length, left := s.left - fsize new3.length }) (by decide) (by decide) (by decide) (Stop.elder (by decide) ?_) (by decide)).trans (by show Ar.mk _ _ _ _ s.lives = _; rw [h2]; rfl)
  show (over s.sec 5 0 1 (fsec 1 10 0 new3) 6).getD 0 0 = 72 → hLife (over s.sec 5 0 1 (fsec 1 10 0 new3) 6) ≠ 10
  rw [over_off (by right; decide)]
  intro c
  rw [h11 6 c]; decide
theorem fits_yes {x : Nat} (h : x ≤ 1000) (s : Int) (hs : (fsize x : Int) ≤ s) : fitB (fun i => ([(x : Int)] : List Int).getD i 0) 1 s = true := by
  unfold fitB fitN fitN
  simp only [List.getD_cons_zero]
  rw [if_pos (by omega)]
  simpa using hs
theorem fits_no {x : Nat} (h : x ≤ 1000) (s : Int) (hs : s < (fsize x : Int)) : fitB (fun i => ([(x : Int)] : List Int).getD i 0) 1 s = false := by
  unfold fitB fitN fitN
  simp only [List.getD_cons_zero]
  rw [if_pos (by omega)]
  simpa using hs

set_option maxHeartbeats 4000000 in
theorem walk_long (w : World) (T : Tab w) (a : Option Addr) (m c : Nat) (kd : Int) (h : 12 < m) : Calls Tryd.prog 6 #[.slice a m c, .int .u8 kd] w fun e w' => e = .returned (.bool true) ∧ Below w.heap.size w w' := by
  have TT : Hid (Tab w) := T
  have h' : (12 : Int) < (m : Int) := by omega
  clear T
  go_enter Tryd.func6, Tryd.ntmps6
  go_wp2_with (go_at_call 7; refine (awake_any w TT.out).mono ?_; rintro e w1 ⟨rfl, b1⟩)
  go_ret
  exact ⟨rfl, b1⟩
set_option maxRecDepth 100000 in
set_option maxHeartbeats 16000000 in
theorem walk_main (w : World) (T : Tab w) (a : Option Addr) (m c : Nat) (zs : List Int) (hz : Nm .i64 w a m c zs) (kd : Int) (hk : 0 ≤ kd ∧ kd < 256) (h : m ≤ 12) : Calls Tryd.prog 6 #[.slice a m c, .int .u8 kd] w fun e w' => e = .returned (.bool true) ∧ Below w.heap.size w w' := by
  have TT : Hid (Tab w) := T
  have HK : Hid _ := hk
  have h' : ¬ (12 : Int) < (m : Int) := by omega
  obtain ⟨lb, lo, z1, z2⟩ := hz.cell
  have Z1 : Hid _ := z1
  have Z2 : Hid _ := z2
  clear T hz z1 z2 hk
  go_enter Tryd.func6, Tryd.ntmps6
  go_wp2_with fail
  refine (awake_any w TT.out).mono ?_
  rintro e w1 ⟨rfl, b1⟩
  have B1 : Hid _ := b1
  clear b1
  go_wp2_with fail
  refine (New_yes 60 w1 (by decide) (by decide)).mono ?_
  rintro e w2 ⟨rfl, d2, b2⟩
  have I2 : Hid (InvD w (w1.heap.size + 1) w1.heap.size 60 fresh w2) := InvD.new B1.out d2 b2 (by omega) (Nat.le_refl _)
  clear d2 b2 B1
  generalize w1.heap.size + 1 = p at *
  generalize w1.heap.size = q at *
  go_wp2_with fail
  refine (I2.out.openAt TT.out 5 50 (by decide) (by decide) (by decide) rfl (by decide)).mono ?_
  rintro e w3 ⟨pa, rfl, a3, -⟩
  rw [opn_fresh] at a3
  have A3 : Hid _ := a3
  clear a3 I2
  go_wp2_with fail
  refine (A3.out.beginAt 9 (by decide)).mono ?_
  rintro e w4 ⟨rfl, A4'⟩
  have A4 : Hid _ := A4'
  clear A4' A3
  go_wp2_with fail
  go_loopg [9, 10] m (fun g av iv wr => ∃ (k t : Nat) (s : St) (ar : Ar), k ≤ m ∧ g = m - k ∧ av = .int .i64 (t : Nat) ∧ iv = .int .i64 (k : Nat) ∧ t ≤ 50 ∧ Hid (Rw s ar k t) ∧ Hid (Ad w wr pa p q 60 s ar))
  case atStart => exact ⟨0, 0, _, _, Nat.zero_le _, rfl, rfl, rfl, by omega, Rw.start, A4.out⟩
  case round =>
    obtain ⟨k, t, s, ar, hk, rfl, rfl, rfl, ht, R, A⟩ := hrel
    have t' : (t : Int) ≤ 50 := by omega
    clear A4
    by_cases qk : k < m
    · have qk' : (k : Int) < (m : Int) := by omega
      obtain rfl := Z1.out (by omega)
      have e1 : wr.cell? ⟨lb, lo + k, none⟩ = some (.int .i64 (zs.getD k 0)) := (A.out.b.cell (p := ⟨lb, lo + k, none⟩) (World.block_lt_of_cell? _ _ (Z2.out k qk))).trans (Z2.out k qk)
      by_cases q0 : zs.getD k 0 < 0
      · generalize zs.getD k 0 = z at *
        go_wp2
        go_ret
        exact ⟨rfl, A.out.b⟩
      by_cases q1 : 1000 < zs.getD k 0
      · generalize zs.getD k 0 = z at *
        go_wp2
        go_ret
        exact ⟨rfl, A.out.b⟩
      obtain ⟨x, hx⟩ : ∃ x : Nat, (x : Int) = zs.getD k 0 := ⟨(zs.getD k 0).toNat, by omega⟩
      have E0 : Hid (w.cell? ⟨lb, lo + k, none⟩ = some (.int .i64 (x : Nat))) := by
        show _ = _
        rw [hx]; exact Z2.out k qk
      rw [← hx] at e1 q0 q1
      clear hx
      have x1 : x ≤ 1000 := by omega
      have X1 : Hid (x ≤ 1000) := x1
      have fl : fsize x ≤ 17 := fsize_le x1
      have fp := fsize_pos x
      have SZ : Hid _ := Size_any x wr x1
      have mk1 : (Instr.makeSlice 32 (.int .i64 (x : Nat)) (.int .i64 (x : Nat))).run Tryd.prog wr = .ok (.slice (some ⟨wr.heap.size, 0, none⟩) x x) (wr.alloc (.cells (vals (List.replicate x 0)).toArray 5)) := make_z wr x (by omega)
      have Y4 : Hid (By (wr.alloc (.cells (vals (List.replicate x 0)).toArray 5)) (some ⟨wr.heap.size, 0, none⟩) x x (List.replicate x 0)) := by_zeros wr x (by omega)
      have A5 : Hid _ := A.out.below (allocB wr (.cells (vals (List.replicate x 0)).toArray 5))
      have AD : Hid _ := A5.out.addAt kd HK.out _ _ _ _ Y4.out (by have := R.out.wr; omega)
      have ln : (List.replicate x (0 : Int)).length = x := List.length_replicate
      clear Y4 A5
      by_cases q2 : fsize x ≤ 50 - t
      · obtain ⟨s', ar', ea, R'⟩ := R.out.yes kd (List.replicate x 0) (by omega) (by rw [ln]; exact q2)
        rw [ea] at AD
        rw [ln] at R'
        have RR : Hid _ := R'
        have q2' : ¬ (50 : Int) - (t : Int) < (fsize x : Int) := by omega
        have fl' : (fsize x : Int) ≤ 17 := by omega
        have fp' : (1 : Int) ≤ (fsize x : Int) := by omega
        have rm : ar'.count - used ar'.fs = 50 - (t + fsize x) := by rw [R'.a2, R'.us]
        generalize vals (List.replicate x 0) = Z at *
        clear ea R' ln R A
        go_wp2_with fail
        refine Calls.mono SZ.out ?_
        rintro e w' ⟨rfl, rfl⟩
        go_wp2_with fail
        refine Calls.mono AD.out ?_
        rintro e w7 ⟨rfl, A7'⟩
        have A7 : Hid _ := A7'
        clear A7' AD mk1 e1
        dsimp only
        go_wp2_with fail
        refine Calls.mono A7.out.roomAt ?_
        rintro e w8 ⟨rfl, A8', -⟩
        have A8 : Hid _ := A8'
        have e8 : w8.cell? ⟨lb, lo + k, none⟩ = some (.int .i64 (x : Nat)) := (A8.out.b.cell (p := ⟨lb, lo + k, none⟩) (World.block_lt_of_cell? _ _ E0.out)).trans E0.out
        have rm' : ((ar'.count - used ar'.fs : Nat) : Int) = 50 - ((t : Int) + (fsize x : Int)) := by rw [rm]; omega
        rw [rm']
        have F1 : Hid _ := Fits_any (fsize x : Nat) _ 1 1 _ _ (ln_new w8 [(x : Int)] 3 (by simp)) (by decide)
        rw [fits_yes X1.out _ (Int.le_refl _)] at F1
        have F2 : Hid _ := Fits_any ((fsize x : Nat) - 1) _ 1 1 _ _ (ln_new (w8.alloc (.cells #[.int .i64 (x : Nat)] 3)) [(x : Int)] 3 (by simp)) (by decide)
        rw [fits_no X1.out _ (by omega), World.size_alloc] at F2
        have pl8 := World.block_lt_of_cell? _ _ e8
        clear A8' A7 rm rm'
        go_wp2_with fail
        refine Calls.mono F1.out ?_
        rintro e w' ⟨rfl, rfl⟩
        go_wp2_with fail
        refine Calls.mono F2.out ?_
        rintro e w' ⟨rfl, rfl⟩
        have A10 : Hid _ := A8.out.below (nextB (allocB w8 (.cells #[.int .i64 (x : Nat)] 3)) (allocB _ (.cells #[.int .i64 (x : Nat)] 3)))
        clear F1 F2 A8 e8 pl8
        go_wp2_with fail
        go_roundg (m - (k + 1))
        case measure => omega
        case rel => exact ⟨k + 1, t + fsize x, s', ar', qk, rfl, by congr 1, by congr 1, by omega, RR.out, A10.out⟩
      · have ea := R.out.no kd (List.replicate x 0) (by omega) (by rw [ln]; omega)
        rw [ea] at AD
        have q2' : (50 : Int) - (t : Int) < (fsize x : Int) := by omega
        have fl' : (fsize x : Int) ≤ 17 := by omega
        have rm : ar.count - used ar.fs = 50 - t := by rw [R.out.a2, R.out.us]
        generalize vals (List.replicate x 0) = Z at *
        clear ea ln A
        go_wp2_with fail
        refine Calls.mono SZ.out ?_
        rintro e w' ⟨rfl, rfl⟩
        go_wp2_with fail
        refine Calls.mono AD.out ?_
        rintro e w7 ⟨rfl, A7'⟩
        have A7 : Hid _ := A7'
        clear A7' AD mk1 e1
        dsimp only
        go_wp2_with fail
        refine Calls.mono A7.out.roomAt ?_
        rintro e w8 ⟨rfl, A8', -⟩
        have A8 : Hid _ := A8'
        have rm' : ((ar.count - used ar.fs : Nat) : Int) = 50 - (t : Int) := by rw [rm]; omega
        rw [rm']
        clear A8' A7 rm rm'
        go_wp2_with fail
        go_roundg (m - (k + 1))
        case measure => omega
        case rel => exact ⟨k + 1, t, s, ar, qk, rfl, rfl, by congr 1, by omega, R.out.next, A8.out⟩
    · obtain rfl : k = m := by omega
      obtain ⟨s', ea, on', lv', op'⟩ := R.out.newer
      have hw : s.writes ≤ 900000 := by have := R.out.wr; omega
      have HW : Hid _ := hw
      have EA : Hid _ := ea
      have ON : Hid _ := on'
      have LV : Hid (s'.lives ≤ 1000000) := by show _ ≤ _; rw [lv']; decide
      have OP : Hid _ := op'
      have CO : Hid (ar.count = 50) := R.out.a2
      clear ea on' lv' op' hw R
      go_wp2_with fail
      refine (A.out.beginAt 10 (by decide)).mono ?_
      rintro e w5 ⟨rfl, A5'⟩
      have A5 : Hid _ := A5'
      clear A5' A
      go_wp2_with fail
      refine Calls.mono A5.out.allAt ?_
      rintro e w6 ⟨⟨a6, c6, rfl, -⟩, A6', -⟩
      have A6 : Hid _ := A6'
      clear A6' A5
      dsimp only [List.length_nil]
      go_wp2_with fail
      refine Calls.mono A6.out.roomAt ?_
      rintro e w7 ⟨rfl, A7', -⟩
      have A7 : Hid _ := A7'
      clear A7' A6
      rw [show (({ ar with life := 10, fs := [] } : Ar).count - used ({ ar with life := 10, fs := [] } : Ar).fs : Nat) = 50 by show ar.count - 0 = 50; rw [CO.out]]
      go_wp2_with fail
      refine Calls.mono A7.out.lifeAt ?_
      rintro e w' ⟨rfl, rfl⟩
      have kc := fun (w : World) (C : Array Value) (n c : Nat) => Lib.run_convert_bytes_const (P := Tryd.prog) w 32 5 C n c Tryd.underlying32 Tryd.underlying5
      have Y8 : Hid (By (w7.alloc (.cells (vals new3).toArray 5 (3, 4))) (some ⟨w7.heap.size, 0, none⟩) 3 3 new3) := by_const w7 new3 new3_ok (by decide) (3, 4) 5
      have A8 : Hid _ := A7.out.below (allocB w7 (.cells (vals new3).toArray 5 (3, 4)))
      have AD : Hid _ := A8.out.addAt 1 (by decide) _ _ _ new3 Y8.out HW.out
      rw [EA.out] at AD
      dsimp only
      go_wp2_with fail
      refine Calls.mono AD.out ?_
      rintro e w9 ⟨rfl, A9'⟩
      have A9 : Hid _ := A9'
      clear A9' Y8 A8 AD A7 kc
      dsimp only
      go_wp2_with fail
      refine (A9.out.inv.openAt TT.out 5 50 (by decide) (by decide) (by decide) ON.out LV.out).mono ?_
      rintro e w10 ⟨pc, rfl, a10, -⟩
      rw [OP.out] at a10
      have A10 : Hid _ := a10
      clear a10 A9
      go_wp2_with fail
      refine Calls.mono A10.out.allAt ?_
      rintro e w11 ⟨⟨a11, c11, rfl, -⟩, A11', -⟩
      have A11 : Hid _ := A11'
      clear A11' A10
      dsimp only [List.length_cons, List.length_nil, Nat.reduceAdd]
      go_wp2_with fail
      refine Calls.mono A11.out.lifeAt ?_
      rintro e w' ⟨rfl, rfl⟩
      go_wp2
      go_ret
      exact ⟨rfl, A11.out.b⟩
theorem walk (w : World) (T : Tab w) (a : Option Addr) (m c : Nat) (zs : List Int) (hz : Nm .i64 w a m c zs) (kd : Int) (hk : (Lit.int .u8 kd).wf = true) : Calls Tryd.prog 6 #[.slice a m c, .int .u8 kd] w fun e w' => e = .returned (.bool true) ∧ Below w.heap.size w w' := by
  have hk' : 0 ≤ kd ∧ kd < 256 := by
    simp [Lit.wf, IntKind.min, IntKind.max, IntKind.signed, IntKind.bits] at hk
    omega
  rcases Nat.lt_or_ge 12 m with q | q
  · exact walk_long w T a m c kd q
  · exact walk_main w T a m c zs hz kd hk' q


set_option maxRecDepth 100000 in
theorem contract (H : Type) (enc : TypeId × Value → H) (W : World) (base : Nat) (args : Array Value) (ds gs : List (DataW H)) (before : List MemPlace)
    (hval : ∀ (j : Nat) t v, Tryd.f6.params[j]? = some t → args[j]? = some v → Value.okWide Tryd.prog W .any base t v)
    (hW : DataW.Whole enc Tryd.prog Tryd.f6.params.toList Rows.frameRowsSpec.vars false W args.toList ds gs before) (hL : laidMetH Tryd.prog Rows.frameRowsRow.laid W) :
    Calls Tryd.prog 6 args W fun e W' => ∃ v, e = .returned v ∧ Rows.frameRowsSpec.post enc Tryd.prog Tryd.f6 false true false false W args v W' := by
  have hW' := hW
  obtain ⟨p, q, hA0, hV, rfl, hfz, hnd⟩ := hW
  have hA : DataW.TrodAll enc Tryd.prog W 0 (fun _ => true) true Tryd.f6.params.toList args.toList ds p := hA0
  have hT : Tab W := tab_of hL
  rw [Tryd.params6] at hA hval
  obtain ⟨v0, vs0, d0, ds0, p0, q0, hargs, rfl, rfl, h0, r0⟩ := trodAll_cons hA
  obtain ⟨v1, vs1, d1, ds1, p1, q1, rfl, rfl, rfl, h1, r1⟩ := trodAll_cons r0
  obtain ⟨rfl, rfl, rfl⟩ := trodAll_nil r1
  obtain rfl : args = #[v0, v1] := by cases args; simp_all
  obtain ⟨rfl, rfl⟩ := trodVars_none hV
  obtain ⟨a0, len0, cap0, rfl⟩ := okWide_slice Tryd.underlying58 (hval 0 58 v0 rfl rfl)
  have k0 := h0
  have lt0 : ∀ x ∈ p0, x.block < W.heap.size := by obtain ⟨m, hm⟩ := k0; exact DataW.trod_lt m _ _ _ hm
  obtain ⟨z0, w0⟩ : ∃ zs, Nm .i64 W a0 len0 cap0 zs := by
    obtain ⟨fuel, hf⟩ := h0
    exact nm_of Tryd.underlying58 Tryd.underlying3 (by kernel_rfl) hf
  obtain ⟨a1, rfl, rfl, rfl, w1⟩ := open_int Tryd.underlying5 (hval 1 5 v1 rfl rfl) h1
  clear hA0
  refine (walk W hT a0 len0 cap0 z0 w0 a1 w1).mono fun e W' ⟨he, bel⟩ => ?_
  subst he
  exact ⟨_, rfl, _, _, _, [], _, [], hW', trodAll_mk1 (shut_bool Tryd.underlying4 _), (trodAll_cons_mk (Below.trod laidOut (by kernel_rfl) (of_decide_eq_true (by kernel_rfl)) k0 bel lt0) (trodAll_cons_mk (shut_int Tryd.underlying5 w1) trodAll_mk0)), rfl, bel.frame _, fun h => by cases h⟩

/-- A world for the witness: the table laid. -/
noncomputable def laidWorld (os : Os) : World :=
  { World.holding Tryd.prog os ⟨#[], #[], []⟩ with heap := (World.holding Tryd.prog os ⟨#[], #[], []⟩).heap.modify 0 fun
      | .cells _ t frozen => .cells (tabL.map (Value.int .u32)).toArray t frozen
      | o => o }
theorem laid_met (os : Os) : laidMet Tryd.prog Rows.frameRowsRow.laid ((laidWorld os).forCall (fun _ _ => 0) ⟨#[], #[.slice none 0 0, .int .u8 0], []⟩).memory :=
  laidMet_of_run' 8 (by kernel_rfl) (by kernel_rfl)
theorem reads (os : Os) {H : Type} (enc : TypeId × Value → H) : ∃ places, DataW.whole enc Tryd.prog ((laidWorld os).forCall (fun _ _ => 0) ⟨#[], #[.slice none 0 0, .int .u8 0], []⟩).memory Tryd.f6.params.toList Rows.frameRowsSpec.vars false (#[.slice none 0 0, .int .u8 0] : Array Value).toList 8 = some ([.nil, .lit (.int .u8 0)], [], places) :=
  ⟨[], by kernel_rfl⟩

set_option maxRecDepth 100000 in
theorem lifted (os : Os) (started : os.Started) (H : Type) (enc : TypeId × Value → H) (F : Stop.Interp) :
    ReturnsInHanded {} Tryd.checked os 6 .any ((OpenSpec.ofChange Rows.frameRowsSpec).preRow enc Tryd.prog Tryd.f6 Rows.frameRowsRow.domain false Rows.frameRowsRow.laid) (((OpenSpec.ofChange Rows.frameRowsSpec).at F).post enc Tryd.prog Tryd.f6 false true false false) := by
  obtain ⟨places, hx⟩ := reads os enc
  refine returnsInHanded_of_row (C := Tryd.checked) (s := OpenSpec.ofChange Rows.frameRowsSpec) own started (by kernel_rfl) Tryd.func6
    (witness_row_at (enc := enc) (C := Tryd.checked) false (laidWorld os) #[.slice none 0 0, .int .u8 0] rfl (by kernel_rfl) (by kernel_rfl) (by kernel_rfl)
      (OpenSpec.preRow_of_cond 8 hx (by kernel_rfl) (fun k hk => by cases hk) (by kernel_rfl) (laid_met os))) ?_
  intro W base args ds gs before hval hW _ _ _ hL _ _
  exact contract H enc W base args ds gs before hval hW hL

theorem said : Rows.FrameRowsSaid :=
  OpenClaim.holds_of_cond 6 Tryd.f6 rfl rfl rfl rfl rfl rfl rfl ⟨rfl, rfl, rfl, rfl, rfl⟩ rfl rfl rfl rfl rfl (by kernel_rfl) Tryd.func6 (by kernel_rfl)
    (of_decide_eq_true (by kernel_rfl)) (by unfold Func.isWrapper; first | (rw [if_pos (by decide +kernel)]; kernel_rfl) | (rw [if_neg (by decide +kernel)]; exact ⟨rfl, rfl⟩))
    (fun os started H enc _ F => by rw [OpenClaim.pre_eq_preRow]; exact lifted os started H enc F)

set_option maxRecDepth 100000 in
theorem plain (f : FuncId) (fn : Func) (hf : Tryd.pinned.checked.prog.funcNamed "publican/publicanlaw5.FrameRows" = some f) (hfn : Tryd.pinned.checked.prog.funcs[f]? = some fn) :
    false = Tryd.pinned.checked.prog.looks [] ∧ ∀ (j : Nat) t, fn.params[j]? = some t → Tryd.pinned.checked.prog.wantsStandIn t = false := by
  obtain rfl : f = 6 := Option.some.inj ((show Tryd.prog.funcNamed "publican/publicanlaw5.FrameRows" = some 6 by kernel_rfl).symm.trans hf) |>.symm
  obtain rfl : fn = Tryd.f6 := (Option.some.inj (Tryd.func6.symm.trans hfn)).symm
  refine ⟨by kernel_rfl, fun j t ht => ?_⟩
  rw [Tryd.params6] at ht
  have hm : t = 58 ∨ t = 5 := by have := Array.mem_of_getElem? ht; simp at this; omega
  rcases hm with rfl | rfl
  · exact (show Tryd.prog.wantsStandIn 58 = false by kernel_rfl)
  · exact (show Tryd.prog.wantsStandIn 5 = false by kernel_rfl)

theorem card : Rows.FrameRowsCardSaid :=
  Claim7.holds_tied_plain_at .later [] _ _ _ _ said (fun _ h => by cases h) (by kernel_rfl) (fun _ h => by cases h) frameRows_row_tie rfl ⟨rfl, rfl⟩ (by kernel_rfl) rfl plain (by kernel_rfl)

end Go.Proofs.YtblmfkdcahhhbaaDoor.frameRows
namespace Go.Proofs.YtblmfkdcahhhbaaDoor

theorem FrameRows_holds : Rows.FrameRowsCardSaid := frameRows.card

end Go.Proofs.YtblmfkdcahhhbaaDoor
