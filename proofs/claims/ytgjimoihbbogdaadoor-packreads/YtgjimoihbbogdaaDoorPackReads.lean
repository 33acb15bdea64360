/- Proved: the law PackReads of package publicanlaw3 returns true for every row of bytes and every row of numbers, whatever memory it starts in, on every schedule; the table of package pack holds what the program's text lays (the card ties it to that text). -/
import Derived.Test.YtgjimoihbbogdaaDoorCards
import Derived.Test.YtgjimoihbbogdaaDoorTie
import Derived.Test.YtgjimoihbbogdaaDoorW9
import Derived.Test.YtgjimoihbbogdaaDoorR3
import Derived.Deep.DeepCutAuto
import Derived.Deep.QuietTactic
import Derived.BigQuiet
namespace Go.Proofs.YtgjimoihbbogdaaDoor.packReads
open Go.ChangeMaps (open_string shut_string)
open Go.ChangeShapes Go.WideShapes Go.ChangeAt Go.RowKit
set_option linter.unusedVariables false

/-- Two Readers apart from each other. -/
structure Sep (w0 : World) (p q p' q' : Nat) : Prop where
  a : p ≠ p'
  b : p ≠ q'
  c : p' ≠ q
  l1 : w0.heap.size ≤ p
  l2 : w0.heap.size ≤ p'
structure Two (w0 : World) (p q p' q' : Nat) (bad : Bool) (bs : List Int) (W : World) : Prop where
  r1 : Rd W p q bad bs
  r2 : Rd W p' q' bad bs
  bl : Below w0.heap.size w0 W
theorem Two.next {w0 w w1 w2 : World} {p q p' q' : Nat} {bad bad' : Bool} {bs bs' : List Int} (h : Two w0 p q p' q' bad bs w) (s : Sep w0 p q p' q') (g1 : w.grownBy w1 (some p)) (r1 : Rd w1 p q bad' bs') (g2 : w1.grownBy w2 (some p')) (r2 : Rd w2 p' q' bad' bs') : Two w0 p q p' q' bad' bs' w2 :=
  ⟨r1.grown g2 s.a.symm s.c, r2, (h.bl.grown g1 h.bl.size (fun k hk => by simp at hk; have := s.l1; omega)).grown g2 (Nat.le_trans h.bl.size g1.size) (fun k hk => by simp at hk; have := s.l2; omega)⟩
theorem Rd.drewN {w : World} {p q : Nat} {bad : Bool} {bs : List Int} (h : Rd w p q bad bs) (k : Nat) : Rd (w.drewN k) p q bad bs :=
  h.below ⟨rfl, rfl, rfl, Nat.le_refl _, fun _ _ => rfl⟩
theorem Two.left {w0 w : World} {p q p' q' : Nat} {bad : Bool} {bs : List Int} (h : Two w0 p q p' q' bad bs w) : ∀ k, Calls Tryd.prog 14 #[.pointer (some ⟨p, 0, none⟩)] (w.drewN k) fun e w' => e = .returned (.int .i64 (bs.length : Nat)) ∧ w' = w.drewN k :=
  fun k => (RLeft_any p q bad bs _ (Rd.drewN h.r1 k)).mono fun e w' ⟨a, b⟩ => ⟨a, b.symm⟩
theorem Two.badq {w0 w : World} {p q p' q' : Nat} {bad : Bool} {bs : List Int} (h : Two w0 p q p' q' bad bs w) : ∀ k, Calls Tryd.prog 13 #[.pointer (some ⟨p, 0, none⟩)] (w.drewN k) fun e w' => e = .returned (.bool bad) ∧ w' = w.drewN k :=
  fun k => (RBad_any p q bad bs _ (Rd.drewN h.r1 k)).mono fun e w' ⟨a, b⟩ => ⟨a, b.symm⟩
theorem Two.drewN {w0 w : World} {p q p' q' : Nat} {bad : Bool} {bs : List Int} (h : Two w0 p q p' q' bad bs w) (k : Nat) : Two w0 p q p' q' bad bs (w.drewN k) :=
  ⟨Rd.drewN h.r1 k, Rd.drewN h.r2 k, ⟨h.bl.os, h.bl.tape, h.bl.output, h.bl.size, h.bl.block⟩⟩

theorem rd_new2 {w w1 : World} {a : Option Addr} {cap : Nat} {bs : List Int} (t : TypeId) (h0 : 0 < w.heap.size) (hb : By w1 a bs.length cap bs) (hs : ∀ x, a = some x → w.heap.size ≤ x.block ∧ x.block < w1.heap.size) (hh : a = none ∨ ∃ g, a = some ⟨g, 0, none⟩) (bl : Below w.heap.size w w1) :
    ∃ q, Rd (w1.alloc (.cells #[.slice a bs.length cap, .bool false] t)) w1.heap.size q false bs ∧ q < w1.heap.size ∧ (q = 0 ∨ w.heap.size ≤ q) := by
  have hw := bl.size
  have B := hb.below (allocB w1 (.cells #[.slice a bs.length cap, .bool false] t))
  rcases hh with rfl | ⟨g, rfl⟩
  · exact ⟨0, ⟨⟨_, _, _, by simp, B, Or.inl rfl⟩, by simp, fun o => by simp, by omega⟩, by omega, Or.inl rfl⟩
  · have h1 := (hs _ rfl).1
    have h2 := (hs _ rfl).2
    simp at h1 h2
    exact ⟨g, ⟨⟨_, _, _, by simp, B, Or.inr ⟨0, rfl⟩⟩, by simp, fun o => by simp, by omega⟩, h2, Or.inr h1⟩

theorem tR_len (l : List Int) : (tR l).length ≤ l.length := by
  have := rR_len l
  unfold tR
  split
  · simp
  · simp; omega

set_option maxHeartbeats 4000000 in
theorem walk_long (w : World) (ht : Tab w) (a : Option Addr) (n cap : Nat) (ac : Option Addr) (m capc : Nat) (h : 400 < n) :
    Calls Tryd.prog 5 #[.slice a n cap, .slice ac m capc] w fun e w' => e = .returned (.bool true) ∧ Below w.heap.size w w' := by
  have T : Hid (Tab w) := ht
  have h' : (400 : Int) < (n : Int) := by omega
  clear ht
  go_enter Tryd.func5, Tryd.ntmps5
  go_wp2_with (go_at_call 9; refine (awake_any w T.out).mono ?_; rintro e w1 ⟨rfl, b1⟩)
  go_ret
  exact ⟨rfl, b1⟩

set_option maxHeartbeats 4000000 in
theorem walk_many (w : World) (ht : Tab w) (a : Option Addr) (n cap : Nat) (ac : Option Addr) (m capc : Nat) (h : n ≤ 400) (h1 : 60 < m) :
    Calls Tryd.prog 5 #[.slice a n cap, .slice ac m capc] w fun e w' => e = .returned (.bool true) ∧ Below w.heap.size w w' := by
  have T : Hid (Tab w) := ht
  have h' : ¬ (400 : Int) < (n : Int) := by omega
  have h1' : (60 : Int) < (m : Int) := by omega
  clear ht
  go_enter Tryd.func5, Tryd.ntmps5
  go_wp2_with (go_at_call 9; refine (awake_any w T.out).mono ?_; rintro e w1 ⟨rfl, b1⟩)
  go_ret
  exact ⟨rfl, b1⟩

set_option maxHeartbeats 8000000 in
theorem walk_main (w : World) (ht : Tab w) (a : Option Addr) (n cap : Nat) (zs : List Int) (hz : By w a n cap zs) (ac : Option Addr) (m capc : Nat) (cs : List Int) (hc : Nm .i64 w ac m capc cs) (h : n ≤ 400) (h1 : m ≤ 60) :
    Calls Tryd.prog 5 #[.slice a n cap, .slice ac m capc] w fun e w' => e = .returned (.bool true) ∧ Below w.heap.size w w' := by
  have TT : Hid (Tab w) := ht
  have Z : Hid (By w a n cap zs) := hz
  have C : Hid (Nm .i64 w ac m capc cs) := hc
  have e1 : ¬ (400 : Int) < (n : Int) := by omega
  have e2 : ¬ (60 : Int) < (m : Int) := by omega
  have hzl := hz.len
  clear ht hz hc
  go_enter Tryd.func5, Tryd.ntmps5
  go_wp2_with fail
  refine (awake_any w TT.out).mono ?_
  rintro e w1 ⟨rfl, b1⟩
  have Z1 : Hid (By w1 a n cap zs) := Z.out.below b1
  have B1 : Hid _ := b1
  have H1 : Hid (0 < w1.heap.size) := by have := TT.out.1; have := b1.size; show 0 < w1.heap.size; omega
  clear b1
  go_wp2_with (at_builtin; refine wpList_append_by rfl (.tmp 18) (.tmp 19) rfl w1.heap.size _ [] rfl (own_empty w1) a n cap zs rfl (Z1.out.below (allocB w1 _)) (by simp; omega) (by simp) ?_; intro v2 w2 o2 g2)
  rw [List.nil_append] at o2
  obtain ⟨a2, c2, rfl, y2, -, -⟩ := o2.by
  have B2 := app0 g2
  refine (Read_any a2 zs.length c2 zs w2 y2 (by omega) (by have := H1.out; have := B2.size; omega)).mono ?_
  rintro e w3 ⟨p, q, rfl, r3, p1, p2, q2, b3⟩
  have R3 : Hid _ := r3
  have B3 : Hid (Below w.heap.size w w3) := nextB (nextB B1.out B2) b3
  have Z3 : Hid (By w3 a n cap zs) := (Z1.out.below B2).below b3
  have P3 : Hid (w1.heap.size ≤ p ∧ p < w3.heap.size ∧ q < w3.heap.size) := ⟨by have := B2.size; omega, p2, q2⟩
  clear o2 g2 y2 B2 r3 p1 p2 q2 b3
  go_upto_region 7 with (at_builtin; refine wpList_append_by rfl (.tmp 22) (.tmp 23) rfl w3.heap.size _ [] rfl (own_empty w3) a n cap zs rfl (Z3.out.below (allocB w3 _)) (by simp; omega) (by simp) ?_; intro v4 w4 o4 g4; rw [List.nil_append] at o4; obtain ⟨a4, c4, rfl, y4, s4, hh4⟩ := o4.by)
  have B4 := app0 g4
  obtain ⟨q', r4, hq', hq2⟩ := rd_new2 40 (by have := H1.out; have := B3.out.size; have := B1.out.size; have := TT.out.1; omega) y4 s4 hh4 B4
  have hw4 := B4.size
  have S : Hid (Sep w p q w4.heap.size q') := ⟨by have := P3.out.2.1; omega, by
      have := P3.out.2.1
      have := P3.out.1
      have := H1.out
      rcases hq2 with rfl | hq2 <;> omega, by have := P3.out.2.2; omega, by have := P3.out.1; have := B1.out.size; omega, by have := B3.out.size; omega⟩
  have T0 : Hid (Two w p q w4.heap.size q' false zs (w4.alloc (.cells #[.slice a4 zs.length c4, .bool false] 40))) := ⟨(R3.out.below B4).below (allocB w4 _), r4, nextB (nextB B3.out B4) (allocB w4 _)⟩
  rw [hzl] at T0
  generalize hp' : w4.heap.size = p' at *
  generalize hW : w4.alloc (.cells #[.slice a4 n c4, .bool false] 40) = W at *
  clear o4 g4 y4 s4 hh4 B4 r4 hq' hq2 hw4 hp' hW R3 B3 Z3 P3 Z1 B1 H1
  go_wp2_with fail
  go_loopg [7] m (fun g iv wr => ∃ (k : Nat) (bad : Bool) (bs : List Int), k ≤ m ∧ g = m - k ∧ iv = .int .i64 k ∧ bs.length ≤ 400 ∧ Hid (Two w p q p' q' bad bs wr))
  case atStart => exact ⟨0, false, zs, Nat.zero_le _, rfl, rfl, by omega, T0.out⟩
  case round =>
    obtain ⟨k, bad, bs, hk, rfl, rfl, hl0, T⟩ := hrel
    have hl : bs.length ≤ 100000 := by omega
    by_cases qk : k < m
    · have qk' : (k : Int) < (m : Int) := by omega
      obtain ⟨b, o, h1', h2'⟩ := C.out.cell
      obtain rfl := h1' (by omega)
      have e3 : wr.cell? ⟨b, o + k, none⟩ = some (.int .i64 (cs.getD k 0)) := by
        rw [T.out.bl.cell (p := ⟨b, o + k, none⟩) (World.block_lt_of_cell? _ _ (h2' k qk))]; exact h2' k qk
      clear h1' h2'
      obtain ⟨r, hr⟩ : ∃ r : Int, (cs.getD k 0).tmod 3 = r := ⟨_, rfl⟩
      generalize cs.getD k 0 = c at *
      by_cases r1' : r = 1
      · subst r1'
        go_wp2_with (first | (go_at_call 12; refine Calls.mono (RI_any p q bad bs wr T.out.r1 hl) ?_; rintro e w1 ⟨rfl, r1, g1⟩) | (go_at_call 24; refine Calls.mono (wI_any p' q' bad bs w1 (T.out.r2.grown g1 S.out.a S.out.b) hl) ?_; rintro e w2 ⟨rfl, r2, g2⟩; have N : Hid _ := T.out.next S.out g1 r1 g2 r2; have QL : Hid _ := N.out.left; have QB : Hid _ := N.out.badq; obtain ⟨a2, n2, c2, d0, y2, -⟩ := r2.ex; have d1 := r2.bad; have hl2 : Hid _ := y2.len; rw [← hl2.out] at d0; clear r1 g1 r2 g2 y2))
        go_quiet (first | (go_at_call 14; exact Calls.quiet_of_same (QL.out _)) | (go_at_call 13; exact Calls.quiet_of_same (QB.out _)))
        go_wp2
        go_roundg (m - (k + 1))
        case measure => omega
        case rel => exact ⟨k + 1, _, _, by omega, rfl, by go_num, by have := rR_len bs; omega, Two.drewN N.out _⟩
      · by_cases r2' : r = 2
        · subst r2'
          go_wp2_with (first | (go_at_call 15; refine Calls.mono (RS_any p q bad bs wr T.out.r1 hl) ?_; rintro e w1 ⟨rfl, r1, g1⟩) | (go_at_call 25; refine Calls.mono (wS_any p' q' bad bs w1 (T.out.r2.grown g1 S.out.a S.out.b) hl) ?_; rintro e w2 ⟨rfl, r2, g2⟩; have N : Hid _ := T.out.next S.out g1 r1 g2 r2; have QL : Hid _ := N.out.left; have QB : Hid _ := N.out.badq; obtain ⟨a2, n2, c2, d0, y2, -⟩ := r2.ex; have d1 := r2.bad; have hl2 : Hid _ := y2.len; rw [← hl2.out] at d0; clear r1 g1 r2 g2 y2))
          go_quiet (first | (go_at_call 14; exact Calls.quiet_of_same (QL.out _)) | (go_at_call 13; exact Calls.quiet_of_same (QB.out _)))
          go_wp2
          go_roundg (m - (k + 1))
          case measure => omega
          case rel => exact ⟨k + 1, _, _, by omega, rfl, by go_num, by have := tR_len bs; omega, Two.drewN N.out _⟩
        · have f1 : (r == 1) = false := beq_eq_false_iff_ne.2 r1'
          have f2 : (r == 2) = false := beq_eq_false_iff_ne.2 r2'
          go_wp2_with (first | (go_at_call 11; refine Calls.mono (RU_any p q bad bs wr T.out.r1 hl) ?_; rintro e w1 ⟨rfl, r1, g1⟩) | (go_at_call 26; refine Calls.mono (wU_any p' q' bad bs w1 (T.out.r2.grown g1 S.out.a S.out.b) hl) ?_; rintro e w2 ⟨rfl, r2, g2⟩; have N : Hid _ := T.out.next S.out g1 r1 g2 r2; have QL : Hid _ := N.out.left; have QB : Hid _ := N.out.badq; obtain ⟨a2, n2, c2, d0, y2, -⟩ := r2.ex; have d1 := r2.bad; have hl2 : Hid _ := y2.len; rw [← hl2.out] at d0; clear r1 g1 r2 g2 y2))
          go_quiet (first | (go_at_call 14; exact Calls.quiet_of_same (QL.out _)) | (go_at_call 13; exact Calls.quiet_of_same (QB.out _)))
          go_wp2
          go_roundg (m - (k + 1))
          case measure => omega
          case rel => exact ⟨k + 1, _, _, by omega, rfl, by go_num, by have := rR_len bs; omega, Two.drewN N.out _⟩
    · go_wp2
      go_ret
      exact ⟨rfl, T.out.bl⟩

theorem walk (w : World) (ht : Tab w) (a : Option Addr) (n cap : Nat) (zs : List Int) (hz : Nm .u8 w a n cap zs) (ac : Option Addr) (m capc : Nat) (cs : List Int) (hc : Nm .i64 w ac m capc cs) :
    Calls Tryd.prog 5 #[.slice a n cap, .slice ac m capc] w fun e w' => e = .returned (.bool true) ∧ Below w.heap.size w w' := by
  by_cases h : 400 < n
  · exact walk_long w ht a n cap ac m capc h
  · by_cases h1 : 60 < m
    · exact walk_many w ht a n cap ac m capc (by omega) h1
    · exact walk_main w ht a n cap zs hz.by ac m capc cs hc (by omega) (by omega)


theorem contract (H : Type) (enc : TypeId × Value → H) (W : World) (base : Nat) (args : Array Value) (ds gs : List (DataW H)) (before : List MemPlace)
    (hval : ∀ (j : Nat) t v, Tryd.f5.params[j]? = some t → args[j]? = some v → Value.okWide Tryd.prog W .any base t v)
    (hW : DataW.Whole enc Tryd.prog Tryd.f5.params.toList Rows.packReadsSpec.vars false W args.toList ds gs before) (hL : laidMetH Tryd.prog Rows.packReadsRow.laid W) :
    Calls Tryd.prog 5 args W fun e W' => ∃ v, e = .returned v ∧ Rows.packReadsSpec.post enc Tryd.prog Tryd.f5 false true false false W args v W' := by
  have hW' := hW
  obtain ⟨p, q, hA0, hV, rfl, hfz, hnd⟩ := hW
  have hA : DataW.TrodAll enc Tryd.prog W 0 (fun _ => true) true Tryd.f5.params.toList args.toList ds p := hA0
  have hT : Tab W := tab_of hL
  rw [Tryd.params5] at hA hval
  obtain ⟨v0, vs0, d0, ds0, p0, q0, hargs, rfl, rfl, h0, r0⟩ := trodAll_cons hA
  obtain ⟨v1, vs1, d1, ds1, p1, q1, rfl, rfl, rfl, h1, r1⟩ := trodAll_cons r0
  obtain ⟨rfl, rfl, rfl⟩ := trodAll_nil r1
  obtain rfl : args = #[v0, v1] := by cases args; simp_all
  obtain ⟨rfl, rfl⟩ := trodVars_none hV
  obtain ⟨a0, len0, cap0, rfl⟩ := okWide_slice Tryd.underlying25 (hval 0 25 v0 rfl rfl)
  have k0 := h0
  have lt0 : ∀ x ∈ p0, x.block < W.heap.size := by obtain ⟨m, hm⟩ := k0; exact DataW.trod_lt m _ _ _ hm
  obtain ⟨z0, w0⟩ : ∃ zs, Nm .u8 W a0 len0 cap0 zs := by
    obtain ⟨fuel, hf⟩ := h0
    exact nm_of Tryd.underlying25 Tryd.underlying5 (by kernel_rfl) hf
  obtain ⟨a1, len1, cap1, rfl⟩ := okWide_slice Tryd.underlying37 (hval 1 37 v1 rfl rfl)
  have k1 := h1
  have lt1 : ∀ x ∈ p1, x.block < W.heap.size := by obtain ⟨m, hm⟩ := k1; exact DataW.trod_lt m _ _ _ hm
  obtain ⟨z1, w1⟩ : ∃ zs, Nm .i64 W a1 len1 cap1 zs := by
    obtain ⟨fuel, hf⟩ := h1
    exact nm_of Tryd.underlying37 Tryd.underlying3 (by kernel_rfl) hf
  clear hA0
  refine (walk W hT a0 len0 cap0 z0 w0 a1 len1 cap1 z1 w1).mono fun e W' ⟨he, bel⟩ => ?_
  subst he
  exact ⟨_, rfl, _, _, _, [], _, [], hW', trodAll_mk1 (shut_bool Tryd.underlying4 _), (trodAll_cons_mk (Below.trod laidOut (by kernel_rfl) (of_decide_eq_true (by kernel_rfl)) k0 bel lt0) (trodAll_cons_mk (Below.trod laidOut (by kernel_rfl) (of_decide_eq_true (by kernel_rfl)) k1 bel lt1) trodAll_mk0)), rfl, bel.frame _, fun h => by cases h⟩

/-- A world for the witness: the table laid. -/
noncomputable def laidWorld (os : Os) : World :=
  { World.holding Tryd.prog os ⟨#[], #[], []⟩ with heap := (World.holding Tryd.prog os ⟨#[], #[], []⟩).heap.modify 0 fun
      | .cells _ t frozen => .cells (tabL.map (Value.int .u32)).toArray t frozen
      | o => o }
theorem laid_met (os : Os) : laidMet Tryd.prog Rows.packReadsRow.laid ((laidWorld os).forCall (fun _ _ => 0) ⟨#[], #[.slice none 0 0, .slice none 0 0], []⟩).memory :=
  laidMet_of_run' 8 (by kernel_rfl) (by kernel_rfl)
theorem reads (os : Os) {H : Type} (enc : TypeId × Value → H) : ∃ places, DataW.whole enc Tryd.prog ((laidWorld os).forCall (fun _ _ => 0) ⟨#[], #[.slice none 0 0, .slice none 0 0], []⟩).memory Tryd.f5.params.toList Rows.packReadsSpec.vars false (#[.slice none 0 0, .slice none 0 0] : Array Value).toList 8 = some ([.nil, .nil], [], places) :=
  ⟨[], by kernel_rfl⟩

set_option maxRecDepth 100000 in
theorem lifted (os : Os) (started : os.Started) (H : Type) (enc : TypeId × Value → H) (F : Stop.Interp) :
    ReturnsInHanded {} Tryd.checked os 5 .any ((OpenSpec.ofChange Rows.packReadsSpec).preRow enc Tryd.prog Tryd.f5 Rows.packReadsRow.domain false Rows.packReadsRow.laid) (((OpenSpec.ofChange Rows.packReadsSpec).at F).post enc Tryd.prog Tryd.f5 false true false false) := by
  obtain ⟨places, hx⟩ := reads os enc
  refine returnsInHanded_of_row (C := Tryd.checked) (s := OpenSpec.ofChange Rows.packReadsSpec) own started (by kernel_rfl) Tryd.func5
    (witness_row_at (enc := enc) (C := Tryd.checked) false (laidWorld os) #[.slice none 0 0, .slice none 0 0] rfl (by kernel_rfl) (by kernel_rfl) (by kernel_rfl)
      (OpenSpec.preRow_of_cond 8 hx (by kernel_rfl) (fun k hk => by cases hk) (by kernel_rfl) (laid_met os))) ?_
  intro W base args ds gs before hval hW _ _ _ hL _ _
  exact contract H enc W base args ds gs before hval hW hL

theorem said : Rows.PackReadsSaid :=
  OpenClaim.holds_of_cond 5 Tryd.f5 rfl rfl rfl rfl rfl rfl rfl ⟨rfl, rfl, rfl, rfl, rfl⟩ rfl rfl rfl rfl rfl (by kernel_rfl) Tryd.func5 (by kernel_rfl)
    (of_decide_eq_true (by kernel_rfl)) (by unfold Func.isWrapper; first | (rw [if_pos (by decide +kernel)]; kernel_rfl) | (rw [if_neg (by decide +kernel)]; exact ⟨rfl, rfl⟩))
    (fun os started H enc _ F => by rw [OpenClaim.pre_eq_preRow]; exact lifted os started H enc F)

theorem plain (f : FuncId) (fn : Func) (hf : Tryd.pinned.checked.prog.funcNamed "publican/publicanlaw3.PackReads" = some f) (hfn : Tryd.pinned.checked.prog.funcs[f]? = some fn) :
    false = Tryd.pinned.checked.prog.looks [] ∧ ∀ (j : Nat) t, fn.params[j]? = some t → Tryd.pinned.checked.prog.wantsStandIn t = false := by
  obtain rfl : f = 5 := Option.some.inj ((show Tryd.prog.funcNamed "publican/publicanlaw3.PackReads" = some 5 by kernel_rfl).symm.trans hf) |>.symm
  obtain rfl : fn = Tryd.f5 := (Option.some.inj (Tryd.func5.symm.trans hfn)).symm
  refine ⟨by kernel_rfl, fun j t ht => ?_⟩
  rw [Tryd.params5] at ht
  have hm : t = 25 ∨ t = 37 := by have := Array.mem_of_getElem? ht; simp at this; omega
  rcases hm with rfl | rfl
  · exact (show Tryd.prog.wantsStandIn 25 = false by kernel_rfl)
  · exact (show Tryd.prog.wantsStandIn 37 = false by kernel_rfl)

theorem card : Rows.PackReadsCardSaid :=
  Claim7.holds_tied_plain_at .later [] _ _ _ _ said (fun _ h => by cases h) (by kernel_rfl) (fun _ h => by cases h) packReads_row_tie rfl ⟨rfl, rfl⟩ (by kernel_rfl) rfl plain (by kernel_rfl)

end Go.Proofs.YtgjimoihbbogdaaDoor.packReads
namespace Go.Proofs.YtgjimoihbbogdaaDoor

theorem PackReads_holds : Rows.PackReadsCardSaid := packReads.card

end Go.Proofs.YtgjimoihbbogdaaDoor
