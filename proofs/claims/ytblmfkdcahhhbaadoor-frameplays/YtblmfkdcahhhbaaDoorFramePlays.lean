/- Proved: the law FramePlays of package publicanlaw5 returns true for every area's start and length and every row of acts, whatever memory it starts in, on every schedule; the table of package pack holds what the program's text lays (the card ties it to that text). -/
import Derived.Test.YtblmfkdcahhhbaaDoorCards
import Derived.Test.YtblmfkdcahhhbaaDoorTie
import Derived.Test.YtblmfkdcahhhbaaDoorL8
namespace Go.Proofs.YtblmfkdcahhhbaaDoor.framePlays
open Go.ChangeShapes Go.WideShapes Go.ChangeAt Go.RowKit
set_option linter.unusedVariables false
set_option linter.unusedSimpArgs false

set_option maxRecDepth 100000 in
set_option maxHeartbeats 4000000 in
theorem walk_no (w : World) (T : Tab w) (fi co : Int) (a : Option Addr) (len cap : Nat) (hc : co ≤ 9223372036854775807) (h : fi < 0 ∨ co < 1 ∨ ((24 : Nat) : Int) < fi + co) : Calls Tryd.prog 4 #[.int .i64 fi, .int .i64 co, .slice a len cap] w fun e w' => e = .returned (.bool true) ∧ Below w.heap.size w w' := by
  have TT : Hid (Tab w) := T
  have HH : Hid _ := h
  clear T h
  go_enter Tryd.func4, Tryd.ntmps4
  go_wp2_with fail
  refine (awake_any w TT.out).mono ?_
  rintro e w1 ⟨rfl, b1⟩
  have B1 : Hid _ := b1
  clear b1
  go_wp2_with fail
  refine (New_yes 24 w1 (by decide) (by decide)).mono ?_
  rintro e w2 ⟨rfl, d2, b2⟩
  have T2 : Hid _ := InvD.new B1.out d2 b2 (by omega) (Nat.le_refl _)
  clear d2 b2 B1
  generalize w1.heap.size + 1 = p at *
  generalize w1.heap.size = q at *
  go_wp2_with fail
  refine (NewDisk_any 24 w2 (by decide) (by decide)).mono ?_
  rintro e w3 ⟨q', rfl, k3, hq', b3⟩
  have T3 : Hid (Both w p q w2.heap.size q' 24 fresh w3) := by
    have hp := T2.out.d.ltp
    have hq := T2.out.d.ltq
    have hb := T2.out.b.size
    exact ⟨T2.out.below b3, k3, ⟨by omega, by omega, by omega, by omega⟩, hb, by omega⟩
  clear k3 hq' b3 T2
  generalize w2.heap.size = p' at *
  go_wp2_with fail
  refine (Open_no w3 p q 24 fresh T3.out.i.d fi co (by decide) hc HH.out).mono ?_
  rintro e w4 ⟨rfl, rfl⟩
  go_wp2_with fail
  refine (kOpen_no _ p' q' 24 fresh T3.out.k fi co (by decide) HH.out).mono ?_
  rintro e w5 ⟨rfl, rfl⟩
  go_wp2
  go_ret
  exact ⟨rfl, T3.out.i.b⟩
set_option maxRecDepth 100000 in
set_option maxHeartbeats 4000000 in
theorem walk_big (w : World) (T : Tab w) (fi co : Nat) (a : Option Addr) (len cap : Nat) (h1 : 1 ≤ co) (h2 : fi + co ≤ 24) (h3 : 60 < len) : Calls Tryd.prog 4 #[.int .i64 (fi : Nat), .int .i64 (co : Nat), .slice a len cap] w fun e w' => e = .returned (.bool true) ∧ Below w.heap.size w w' := by
  have TT : Hid (Tab w) := T
  have e3 : (60 : Int) < (len : Int) := by omega
  clear T h3
  go_enter Tryd.func4, Tryd.ntmps4
  go_wp2_with fail
  refine (awake_any w TT.out).mono ?_
  rintro e w1 ⟨rfl, b1⟩
  have B1 : Hid _ := b1
  clear b1
  go_wp2_with fail
  refine (New_yes 24 w1 (by decide) (by decide)).mono ?_
  rintro e w2 ⟨rfl, d2, b2⟩
  have T2 : Hid _ := InvD.new B1.out d2 b2 (by omega) (Nat.le_refl _)
  clear d2 b2 B1
  generalize w1.heap.size + 1 = p at *
  generalize w1.heap.size = q at *
  go_wp2_with fail
  refine (NewDisk_any 24 w2 (by decide) (by decide)).mono ?_
  rintro e w3 ⟨q', rfl, k3, hq', b3⟩
  have T3 : Hid (Both w p q w2.heap.size q' 24 fresh w3) := by
    have hp := T2.out.d.ltp
    have hq := T2.out.d.ltq
    have hb := T2.out.b.size
    exact ⟨T2.out.below b3, k3, ⟨by omega, by omega, by omega, by omega⟩, hb, by omega⟩
  clear k3 hq' b3 T2
  generalize w2.heap.size = p' at *
  go_wp2_with fail
  refine (Open_yes w3 p q 24 fresh T3.out.i.d (TT.out.next T3.out.i.b) fi co (by decide) h1 h2 rfl (by decide)).mono ?_
  rintro e w4 ⟨va, rfl, a4, o4, b4⟩
  have A4 : Hid _ := And.intro a4 (And.intro o4 b4)
  clear a4 o4 b4
  go_wp2_with fail
  refine (kOpen_yes w4 p' q' 24 fresh (T3.out.k.below A4.out.2.2) fi co (by decide) h1 h2 rfl (by decide)).mono ?_
  rintro e w5 ⟨vw, rfl, a5, o5, b5, sm5⟩
  have T5 : Hid (Duo w w5 w3.heap.size p q w4.heap.size p' q' 24 fresh (opn fresh fi co) va fresh (opn fresh fi co) vw) := Both.duo T3.out TT.out A4.out.1 A4.out.2.1 A4.out.2.2 a5 o5 b5 (opn_ok T3.out.i.d.ok (by decide) h2 (by decide)) sm5 (laidP_opn _ _ _)
  clear a5 o5 b5 sm5 A4 T3
  generalize w3.heap.size = pa at *
  generalize w4.heap.size = pb at *
  generalize opn fresh fi co = ar0 at *
  go_wp2
  go_ret
  exact ⟨rfl, T5.out.b⟩

set_option maxRecDepth 100000 in
set_option maxHeartbeats 32000000 in
theorem walk_main (w : World) (T : Tab w) (fi co : Nat) (a : Option Addr) (len cap : Nat) (f : Nat → Ac5) (hf : Acts5 w a len cap f) (h1 : 1 ≤ co) (h2 : fi + co ≤ 24) (h3 : len ≤ 60) : Calls Tryd.prog 4 #[.int .i64 (fi : Nat), .int .i64 (co : Nat), .slice a len cap] w fun e w' => e = .returned (.bool true) ∧ Below w.heap.size w w' := by
  have TT : Hid (Tab w) := T
  have F : Hid _ := hf
  have e3 : ¬ (60 : Int) < (len : Int) := by omega
  have fc := hf.fits
  have cm : (cap : Int) ≤ 9223372036854775807 := by have := hf.max; unfold maxLen at this; omega
  clear T hf
  go_enter Tryd.func4, Tryd.ntmps4
  go_wp2_with fail
  refine (awake_any w TT.out).mono ?_
  rintro e w1 ⟨rfl, b1⟩
  have B1 : Hid _ := b1
  clear b1
  go_wp2_with fail
  refine (New_yes 24 w1 (by decide) (by decide)).mono ?_
  rintro e w2 ⟨rfl, d2, b2⟩
  have T2 : Hid _ := InvD.new B1.out d2 b2 (by omega) (Nat.le_refl _)
  clear d2 b2 B1
  generalize w1.heap.size + 1 = p at *
  generalize w1.heap.size = q at *
  go_wp2_with fail
  refine (NewDisk_any 24 w2 (by decide) (by decide)).mono ?_
  rintro e w3 ⟨q', rfl, k3, hq', b3⟩
  have T3 : Hid (Both w p q w2.heap.size q' 24 fresh w3) := by
    have hp := T2.out.d.ltp
    have hq := T2.out.d.ltq
    have hb := T2.out.b.size
    exact ⟨T2.out.below b3, k3, ⟨by omega, by omega, by omega, by omega⟩, hb, by omega⟩
  clear k3 hq' b3 T2
  generalize w2.heap.size = p' at *
  go_wp2_with fail
  refine (Open_yes w3 p q 24 fresh T3.out.i.d (TT.out.next T3.out.i.b) fi co (by decide) h1 h2 rfl (by decide)).mono ?_
  rintro e w4 ⟨va, rfl, a4, o4, b4⟩
  have A4 : Hid _ := And.intro a4 (And.intro o4 b4)
  clear a4 o4 b4
  go_wp2_with fail
  refine (kOpen_yes w4 p' q' 24 fresh (T3.out.k.below A4.out.2.2) fi co (by decide) h1 h2 rfl (by decide)).mono ?_
  rintro e w5 ⟨vw, rfl, a5, o5, b5, sm5⟩
  have T5 : Hid (Duo w w5 w3.heap.size p q w4.heap.size p' q' 24 fresh (opn fresh fi co) va fresh (opn fresh fi co) vw) := Both.duo T3.out TT.out A4.out.1 A4.out.2.1 A4.out.2.2 a5 o5 b5 (opn_ok T3.out.i.d.ok (by decide) h2 (by decide)) sm5 (laidP_opn _ _ _)
  clear a5 o5 b5 sm5 A4 T3
  generalize w3.heap.size = pa at *
  generalize w4.heap.size = pb at *
  generalize opn fresh fi co = ar0 at *
  go_wp2_with fail
  go_loopg [10, 12, 14] len (fun g av bv iv wr => ∃ (k pa pb : Nat) (s : St) (ar : Ar) (va vw : Value), k ≤ len ∧ g = len - k ∧ av = .pointer (some ⟨pa, 0, none⟩) ∧ bv = .pointer (some ⟨pb, 0, none⟩) ∧ iv = .int .i64 k ∧ Hid (Duo w wr pa p q pb p' q' 24 s ar va s ar vw) ∧ Hid (s.writes ≤ 20 * k ∧ s.lives ≤ 1 + k))
  case atStart => exact ⟨0, pa, pb, fresh, ar0, va, vw, Nat.zero_le _, rfl, rfl, rfl, rfl, T5.out, by decide, by decide⟩
  case round =>
    clear T5
    clear va vw ar0
    obtain ⟨k, pa, pb, s, ar, va, vw, hk, rfl, rfl, rfl, rfl, T, BD⟩ := hrel
    by_cases qk : k < len
    · have qk' : (k : Int) < (len : Int) := by omega
      obtain ⟨g, o, A1, A2⟩ := F.out.at_
      obtain rfl := A1 (by omega)
      obtain ⟨a', m, c, X⟩ := A2 k qk
      have X0 : Hid _ := X
      have old : ∀ j v, w.cell? ⟨g, j, none⟩ = some v → wr.cell? ⟨g, j, none⟩ = some v := fun j v hv => by
        rw [T.out.b.cell (p := ⟨g, j, none⟩) (World.block_lt_of_cell? _ _ hv)]; exact hv
      have x0 := old _ _ X.c0
      have x1 := old _ _ X.c1
      have x2 := old _ _ X.c2
      have x3 := old _ _ X.c3
      have x4 := old _ _ X.c4
      have x5 := old _ _ X.c5
      have nm := X.nm
      have KD : Hid _ := X.kd
      have LF : Hid _ := X.lf
      have WL : Hid (s.writes ≤ 2000 ∧ s.lives ≤ 1000) := by have := BD.out; exact ⟨by omega, by omega⟩
      have mx := X.by5.max
      have mf := X.by5.fits
      have mi : (m : Int) ≤ 9223372036854775807 := by unfold maxLen at mx; omega
      generalize hx : f k = x at *
      clear old X hx A1 A2 mx
      by_cases big : 1100 < m
      · have big' : (1100 : Int) < (m : Int) := by omega
        go_wp2
        go_ret
        exact ⟨rfl, nextB T.out.b (allocB wr _)⟩
      · have big' : ¬ (1100 : Int) < (m : Int) := by omega
        by_cases o0 : x.op = 0
        · rw [o0] at x0
          go_upto_region 26 with fail
          obtain ⟨W0, hW0⟩ : ∃ W0, wr.alloc (.cells #[.int .i64 0, .int .i64 x.n, .int .i64 x.how, .int .u8 x.kind, .int .u64 (x.life : Nat), .slice a' m c] 45) = W0 := ⟨_, rfl⟩
          have T1 : Hid (Duo w W0 pa p q pb p' q' 24 s ar va s ar vw) := by show Duo w W0 pa p q pb p' q' 24 s ar va s ar vw; rw [← hW0]; exact T.out.below (allocB wr _)
          have BN : Hid (wr.heap.size < W0.heap.size ∧ wr.heap.size ∉ p :: q :: pa :: vb va ∧ wr.heap.size ∉ p' :: q' :: pb :: vb vw) := ⟨by rw [← hW0]; simp, fun c => Nat.lt_irrefl _ (T.out.lta _ c), fun c => Nat.lt_irrefl _ (T.out.ltb _ c)⟩
          have b3 : W0.cell? ⟨wr.heap.size, 3, none⟩ = some (.int .u8 x.kind) := by rw [← hW0, cell_of_row _ _ _ _ _ _ (heap_alloc_last wr _)]; rfl
          have b5 : W0.cell? ⟨wr.heap.size, 5, none⟩ = some (.slice a' m c) := by rw [← hW0, cell_of_row _ _ _ _ _ _ (heap_alloc_last wr _)]; rfl
          rw [hW0]
          have Y0 : Hid (By W0 a' m c x.b) := X0.out.by5.below T1.out.b
          have LB : Hid (x.b.length = m) := Y0.out.len
          generalize wr.heap.size = B at *
          clear hW0 T x0 x1 x2 x3 x4 x5
          have SX : Hid (∀ W : World, Below W0.heap.size W0 W → W.cell? ⟨B, 3, none⟩ = some (.int .u8 x.kind) ∧ W.cell? ⟨B, 5, none⟩ = some (.slice a' m c)) := fun W hW => ⟨(hW.cell (p := ⟨B, 3, none⟩) BN.out.1).trans b3, (hW.cell (p := ⟨B, 5, none⟩) BN.out.1).trans b5⟩
          have AD : Hid (∀ (W : World) (a1 : Option Addr) (m1 c1 : Nat), Duo w W pa p q pb p' q' 24 s ar va s ar vw → By W a1 m1 c1 x.b → _) := fun W a1 m1 c1 h1 h2 => h1.addA x.kind KD.out a1 m1 c1 x.b h2 (by have := WL.out; omega)
          have AB : Hid (∀ (W : World) (s1 : St) (a1 : Ar) (v1 : Value), Duo w W pa p q pb p' q' 24 s1 a1 v1 s ar vw → _) := fun W s1 a1 v1 h1 => h1.addB x.kind KD.out x.b Y0.out.ok (by have := WL.out; omega)
          have BW : Hid ((addG 24 s ar x.kind x.b).s.writes ≤ s.writes + 17 ∧ (addG 24 s ar x.kind x.b).s.lives = s.lives) := addG_wr _ _ _ _ _
          have S0 := SX.out W0.drew (Below.refl _ _).drew
          have S1 := SX.out (W0.alloc (.cells #[] 5)).drew (allocB W0 _).drew
          have YA : Hid (By (W0.alloc (.cells #[] 5)).drew a' m c x.b) := Y0.out.below (allocB W0 _).drew
          have OE : Hid (Own (W0.alloc (.cells #[] 5)).drew W0.heap.size (.slice (some ⟨W0.heap.size, 0, none⟩) 0 0) []) := (own_empty W0).below (Below.refl _ _).drew
          have YS : Hid (∀ W : World, Below w.heap.size w W → (convert 32 9 (.slice a' m c)).run Tryd.prog W = .ok (.string (strOfNums x.b)) W) := fun W hW => (X0.out.by5.below hW).str
          generalize addG 24 s ar x.kind x.b = R at *
          obtain ⟨ps, er, s2, ar2⟩ := R
          dsimp only at AD AB BW
          go_region_held3 (fun W => W.cell? ⟨B, 3, none⟩ = some (.int .u8 x.kind) ∧ W.cell? ⟨B, 5, none⟩ = some (.slice a' m c)) (with_reducible assumption) (first | (refine step_append_by (by rfl) (.tmp 118) (.tmp 120) (by rfl) W0.heap.size (.slice (some ⟨W0.heap.size, 0, none⟩) 0 0) [] (by rfl) OE.out a' m c x.b (by rfl) YA.out (by simp; omega) (by simp) ?_; intro v1 w1 o1 g1; rw [List.nil_append] at o1; obtain ⟨a1, c1, rfl, y1, s1, -⟩ := o1.by; have B1 : Hid (Below W0.heap.size W0 w1) := ((allocB W0 _).drew).grown g1 (by simp) (fun k hk => ((own_empty W0).row.lt k hk).1); have SS1 := SX.out w1 B1.out; have Y1 : Hid _ := y1; clear o1 g1 y1 s1) | (go_at_call 10; refine Calls.mono (AD.out w1 a1 x.b.length c1 (T1.out.below B1.out) Y1.out) ?_; rintro e w2 ⟨rfl, ⟨va2, t2⟩, ch2⟩; have T2 : Hid _ := t2; have SS2 : w2.cell? ⟨B, 3, none⟩ = some (.int .u8 x.kind) ∧ w2.cell? ⟨B, 5, none⟩ = some (.slice a' m c) := ⟨ch2.cell SS1.1 BN.out.2.1, ch2.cell SS1.2 BN.out.2.1⟩; clear t2 ch2))
          obtain ⟨z3, z5⟩ := SS2
          have st := YS.out w2 T2.out.b
          clear SS1 S0 S1 SX AD Y0 YA OE YS Y1
          generalize strOfNums x.b = t at *
          go_wp2_with fail
          refine Calls.mono (AB.out w2 s2 ar2 va2 T2.out) ?_
          rintro e w3 ⟨rfl, ⟨v3, t3⟩, -⟩
          have T3 : Hid _ := t3
          clear t3 AB
          have N : Hid _ := T3.out
          go_wp2_with fail
          refine Calls.mono (same_any w _ pa p q pb p' q' 24 _ _ _ _ _ N.out) ?_
          rintro e w9 ⟨rfl, b9⟩
          have N9 : Hid _ := N.out.below b9
          clear b9
          go_wp2
          go_roundg (len - (k + 1))
          case measure => omega
          case rel => exact ⟨k + 1, pa, pb, s2, ar2, _, _, by omega, rfl, rfl, rfl, by go_num, N9.out, by have := BD.out; have := BW.out; exact ⟨by omega, by omega⟩⟩
        · have m0 : (x.op == 0) = false := beq_eq_false_iff_ne.2 o0
          by_cases o1 : x.op = 1
          · rw [o1] at x0
            go_upto_region 31 with fail
            obtain ⟨W0, hW0⟩ : ∃ W0, wr.alloc (.cells #[.int .i64 1, .int .i64 x.n, .int .i64 x.how, .int .u8 x.kind, .int .u64 (x.life : Nat), .slice a' m c] 45) = W0 := ⟨_, rfl⟩
            have T1 : Hid (Duo w W0 pa p q pb p' q' 24 s ar va s ar vw) := by show Duo w W0 pa p q pb p' q' 24 s ar va s ar vw; rw [← hW0]; exact T.out.below (allocB wr _)
            have BN : Hid (wr.heap.size < W0.heap.size ∧ wr.heap.size ∉ p :: q :: pa :: vb va ∧ wr.heap.size ∉ p' :: q' :: pb :: vb vw) := ⟨by rw [← hW0]; simp, fun c => Nat.lt_irrefl _ (T.out.lta _ c), fun c => Nat.lt_irrefl _ (T.out.ltb _ c)⟩
            have b4 : W0.cell? ⟨wr.heap.size, 4, none⟩ = some (.int .u64 (x.life : Nat)) := by rw [← hW0, cell_of_row _ _ _ _ _ _ (heap_alloc_last wr _)]; rfl
            rw [hW0]
            have Y0 : Hid (By W0 a' m c x.b) := X0.out.by5.below T1.out.b
            have LB : Hid (x.b.length = m) := Y0.out.len
            generalize wr.heap.size = B at *
            clear hW0 T x0 x1 x2 x3 x4 x5
            have BW : Hid (s.writes ≤ s.writes + 17 ∧ s.lives = s.lives) := ⟨by omega, rfl⟩
            go_wp2_with fail
            refine Calls.mono (T1.out.beginA x.life LF.out) ?_
            rintro e w2 ⟨rfl, t2, ch2⟩
            have T2 : Hid _ := t2
            have z4 : w2.cell? ⟨B, 4, none⟩ = some (.int .u64 (x.life : Nat)) := ch2.cell b4 (fun c => by have := BN.out.2.1; simp at c this; omega)
            have T3 : Hid _ := T2.out.beginB x.life LF.out
            have l3 := T2.out.bm.c3
            have l4 := T2.out.bm.c4
            have lz := T2.out.bm.fz
            have pl := T2.out.bm.lt
            clear t2 ch2
            have N : Hid _ := T3.out
            go_wp2_with fail
            refine Calls.mono (same_any w _ pa p q pb p' q' 24 _ _ _ _ _ N.out) ?_
            rintro e w9 ⟨rfl, b9⟩
            have N9 : Hid _ := N.out.below b9
            clear b9
            go_wp2
            go_roundg (len - (k + 1))
            case measure => omega
            case rel => exact ⟨k + 1, pa, pb, s, { ar with life := x.life, fs := [] }, _, _, by omega, rfl, rfl, rfl, by go_num, N9.out, by have := BD.out; have := BW.out; exact ⟨by omega, by omega⟩⟩
          · have m1 : (x.op == 1) = false := beq_eq_false_iff_ne.2 o1
            by_cases o3 : x.op = 3
            · rw [o3] at x0
              go_upto_region 35 with fail
              obtain ⟨W0, hW0⟩ : ∃ W0, wr.alloc (.cells #[.int .i64 3, .int .i64 x.n, .int .i64 x.how, .int .u8 x.kind, .int .u64 (x.life : Nat), .slice a' m c] 45) = W0 := ⟨_, rfl⟩
              have T1 : Hid (Duo w W0 pa p q pb p' q' 24 s ar va s ar vw) := by show Duo w W0 pa p q pb p' q' 24 s ar va s ar vw; rw [← hW0]; exact T.out.below (allocB wr _)
              have BN : Hid (wr.heap.size < W0.heap.size ∧ wr.heap.size ∉ p :: q :: pa :: vb va ∧ wr.heap.size ∉ p' :: q' :: pb :: vb vw) := ⟨by rw [← hW0]; simp, fun c => Nat.lt_irrefl _ (T.out.lta _ c), fun c => Nat.lt_irrefl _ (T.out.ltb _ c)⟩
              have b1 : W0.cell? ⟨wr.heap.size, 1, none⟩ = some (.int .i64 x.n) := by rw [← hW0, cell_of_row _ _ _ _ _ _ (heap_alloc_last wr _)]; rfl
              have b2 : W0.cell? ⟨wr.heap.size, 2, none⟩ = some (.int .i64 x.how) := by rw [← hW0, cell_of_row _ _ _ _ _ _ (heap_alloc_last wr _)]; rfl
              rw [hW0]
              have Y0 : Hid (By W0 a' m c x.b) := X0.out.by5.below T1.out.b
              have LB : Hid (x.b.length = m) := Y0.out.len
              generalize wr.heap.size = B at *
              clear hW0 T x0 x1 x2 x3 x4 x5
              have BW : Hid ((s.cutTo x.n (odd x.how)).writes ≤ s.writes + 17 ∧ (s.cutTo x.n (odd x.how)).lives = s.lives) := ⟨by show s.writes ≤ _; omega, rfl⟩
              go_wp2_with fail
              refine Calls.mono (Cut_any p q 24 s x.n x.how _ T1.out.d nm) ?_
              rintro e w2 ⟨rfl, d2, g2⟩
              have T2 : Hid _ := T1.out.grA d2 g2
              have z1 : w2.cell? ⟨B, 1, none⟩ = some (.int .i64 x.n) := (World.cell?_of_block (w := W0) (a := ⟨B, 1, none⟩) (g2.block B BN.out.1 (fun e => BN.out.2.1 (by simp [e])) (fun e => BN.out.2.1 (by simp [e])))).trans b1
              have z2 : w2.cell? ⟨B, 2, none⟩ = some (.int .i64 x.how) := (World.cell?_of_block (w := W0) (a := ⟨B, 2, none⟩) (g2.block B BN.out.1 (fun e => BN.out.2.1 (by simp [e])) (fun e => BN.out.2.1 (by simp [e])))).trans b2
              clear d2 g2
              go_wp2_with fail
              refine Calls.mono (Arm_any p' q' 24 s x.n x.how _ T2.out.k nm) ?_
              rintro e w3 ⟨rfl, k3, g3⟩
              have T3 : Hid _ := T2.out.grB k3 g3
              clear k3 g3
              go_wp2
              go_roundg (len - (k + 1))
              case measure => omega
              case rel => exact ⟨k + 1, pa, pb, (s.cutTo x.n (odd x.how)), ar, _, _, by omega, rfl, rfl, rfl, by go_num, T3.out, by have := BD.out; have := BW.out; exact ⟨by omega, by omega⟩⟩
            · have m3 : (x.op == 3) = false := beq_eq_false_iff_ne.2 o3
              by_cases o5 : x.op = 5
              · rw [o5] at x0
                go_upto_region 38 with fail
                obtain ⟨W0, hW0⟩ : ∃ W0, wr.alloc (.cells #[.int .i64 5, .int .i64 x.n, .int .i64 x.how, .int .u8 x.kind, .int .u64 (x.life : Nat), .slice a' m c] 45) = W0 := ⟨_, rfl⟩
                have T1 : Hid (Duo w W0 pa p q pb p' q' 24 s ar va s ar vw) := by show Duo w W0 pa p q pb p' q' 24 s ar va s ar vw; rw [← hW0]; exact T.out.below (allocB wr _)
                have BN : Hid (wr.heap.size < W0.heap.size ∧ wr.heap.size ∉ p :: q :: pa :: vb va ∧ wr.heap.size ∉ p' :: q' :: pb :: vb vw) := ⟨by rw [← hW0]; simp, fun c => Nat.lt_irrefl _ (T.out.lta _ c), fun c => Nat.lt_irrefl _ (T.out.ltb _ c)⟩
                have b1 : W0.cell? ⟨wr.heap.size, 1, none⟩ = some (.int .i64 x.n) := by rw [← hW0, cell_of_row _ _ _ _ _ _ (heap_alloc_last wr _)]; rfl
                rw [hW0]
                have Y0 : Hid (By W0 a' m c x.b) := X0.out.by5.below T1.out.b
                have LB : Hid (x.b.length = m) := Y0.out.len
                generalize wr.heap.size = B at *
                clear hW0 T x0 x1 x2 x3 x4 x5
                have BW : Hid (s.writes ≤ s.writes + 17 ∧ s.lives = s.lives) := ⟨by omega, rfl⟩
                go_wp2_with fail
                refine Calls.mono (gets_any w _ pa p q pb p' q' 24 _ _ _ _ T1.out x.n) ?_
                rintro e w2 ⟨rfl, b2⟩
                have T2 : Hid _ := T1.out.below b2
                clear b2
                have N : Hid _ := T2.out
                go_wp2_with fail
                refine Calls.mono (same_any w _ pa p q pb p' q' 24 _ _ _ _ _ N.out) ?_
                rintro e w9 ⟨rfl, b9⟩
                have N9 : Hid _ := N.out.below b9
                clear b9
                go_wp2
                go_roundg (len - (k + 1))
                case measure => omega
                case rel => exact ⟨k + 1, pa, pb, s, ar, _, _, by omega, rfl, rfl, rfl, by go_num, N9.out, by have := BD.out; have := BW.out; exact ⟨by omega, by omega⟩⟩
              · have m5 : (x.op == 5) = false := beq_eq_false_iff_ne.2 o5
                by_cases o6 : x.op = 6
                · rw [o6] at x0
                  go_upto_region 41 with fail
                  obtain ⟨W0, hW0⟩ : ∃ W0, wr.alloc (.cells #[.int .i64 6, .int .i64 x.n, .int .i64 x.how, .int .u8 x.kind, .int .u64 (x.life : Nat), .slice a' m c] 45) = W0 := ⟨_, rfl⟩
                  have T1 : Hid (Duo w W0 pa p q pb p' q' 24 s ar va s ar vw) := by show Duo w W0 pa p q pb p' q' 24 s ar va s ar vw; rw [← hW0]; exact T.out.below (allocB wr _)
                  have BN : Hid (wr.heap.size < W0.heap.size ∧ wr.heap.size ∉ p :: q :: pa :: vb va ∧ wr.heap.size ∉ p' :: q' :: pb :: vb vw) := ⟨by rw [← hW0]; simp, fun c => Nat.lt_irrefl _ (T.out.lta _ c), fun c => Nat.lt_irrefl _ (T.out.ltb _ c)⟩
                  have b1 : W0.cell? ⟨wr.heap.size, 1, none⟩ = some (.int .i64 x.n) := by rw [← hW0, cell_of_row _ _ _ _ _ _ (heap_alloc_last wr _)]; rfl
                  have b5 : W0.cell? ⟨wr.heap.size, 5, none⟩ = some (.slice a' m c) := by rw [← hW0, cell_of_row _ _ _ _ _ _ (heap_alloc_last wr _)]; rfl
                  rw [hW0]
                  have Y0 : Hid (By W0 a' m c x.b) := X0.out.by5.below T1.out.b
                  have LB : Hid (x.b.length = m) := Y0.out.len
                  generalize wr.heap.size = B at *
                  clear hW0 T x0 x1 x2 x3 x4 x5
                  by_cases q64 : 64 < m
                  · have q64' : (64 : Int) < (m : Int) := by omega
                    have BW : Hid (s.writes ≤ s.writes + 17 ∧ s.lives = s.lives) := ⟨by omega, rfl⟩
                    go_wp2
                    go_roundg (len - (k + 1))
                    case measure => omega
                    case rel => exact ⟨k + 1, pa, pb, s, ar, _, _, by omega, rfl, rfl, rfl, by go_num, T1.out, by have := BD.out; have := BW.out; exact ⟨by omega, by omega⟩⟩
                  · have q64' : ¬ (64 : Int) < (m : Int) := by omega
                    have WR : Hid _ := Write_any p q 24 s x.n a' m c x.b W0 T1.out.d Y0.out (fun hm z hz => by have h1 := X0.out.by5.old hm z hz; have h2 := T1.out.la p (by simp); have h3 := T1.out.la q (by simp); exact ⟨by omega, by omega⟩) (by have := WL.out; omega)
                    have BW : Hid ((wS 24 s x.n x.b).writes ≤ s.writes + 17 ∧ (wS 24 s x.n x.b).lives = s.lives) := by have := wS_wr 24 s x.n x.b; exact ⟨by omega, this.2⟩
                    have KW : Hid (∀ W : World, Kk W p' q' 24 s → _) := fun W h1 => KWrite_any p' q' 24 s x.n x.b W h1 Y0.out.ok (by have := LB.out; omega) (by have := WL.out; omega)
                    have YS : Hid (∀ W : World, Below w.heap.size w W → (convert 32 9 (.slice a' m c)).run Tryd.prog W = .ok (.string (strOfNums x.b)) W) := fun W hW => (X0.out.by5.below hW).str
                    generalize wE 24 s x.n x.b = y at *
                    generalize wS 24 s x.n x.b = s2 at *
                    go_wp2_with fail
                    refine Calls.mono WR.out ?_
                    rintro e w2 ⟨rfl, d2, g2⟩
                    have T2 : Hid _ := T1.out.grA d2 g2
                    have z1 : w2.cell? ⟨B, 1, none⟩ = some (.int .i64 x.n) := (World.cell?_of_block (w := W0) (a := ⟨B, 1, none⟩) (g2.block B BN.out.1 (fun e => BN.out.2.1 (by simp [e])) (fun e => BN.out.2.1 (by simp [e])))).trans b1
                    have z5 : w2.cell? ⟨B, 5, none⟩ = some (.slice a' m c) := (World.cell?_of_block (w := W0) (a := ⟨B, 5, none⟩) (g2.block B BN.out.1 (fun e => BN.out.2.1 (by simp [e])) (fun e => BN.out.2.1 (by simp [e])))).trans b5
                    have st := YS.out w2 T2.out.b
                    clear d2 g2 WR YS
                    generalize strOfNums x.b = t at *
                    go_wp2_with fail
                    refine Calls.mono (KW.out _ T2.out.k) ?_
                    rintro e w3 ⟨rfl, k3, g3⟩
                    have T3 : Hid _ := T2.out.grB k3 g3
                    clear k3 g3 KW
                    go_wp2
                    go_roundg (len - (k + 1))
                    case measure => omega
                    case rel => exact ⟨k + 1, pa, pb, s2, ar, _, _, by omega, rfl, rfl, rfl, by go_num, T3.out, by have := BD.out; have := BW.out; exact ⟨by omega, by omega⟩⟩
                · have m6 : (x.op == 6) = false := beq_eq_false_iff_ne.2 o6
                  go_upto_region 16 with fail
                  obtain ⟨W0, hW0⟩ : ∃ W0, wr.alloc (.cells #[.int .i64 x.op, .int .i64 x.n, .int .i64 x.how, .int .u8 x.kind, .int .u64 (x.life : Nat), .slice a' m c] 45) = W0 := ⟨_, rfl⟩
                  have T1 : Hid (Duo w W0 pa p q pb p' q' 24 s ar va s ar vw) := by show Duo w W0 pa p q pb p' q' 24 s ar va s ar vw; rw [← hW0]; exact T.out.below (allocB wr _)
                  have BN : Hid (wr.heap.size < W0.heap.size ∧ wr.heap.size ∉ p :: q :: pa :: vb va ∧ wr.heap.size ∉ p' :: q' :: pb :: vb vw) := ⟨by rw [← hW0]; simp, fun c => Nat.lt_irrefl _ (T.out.lta _ c), fun c => Nat.lt_irrefl _ (T.out.ltb _ c)⟩
                  have b0 : W0.cell? ⟨wr.heap.size, 0, none⟩ = some (.int .i64 x.op) := by rw [← hW0, cell_of_row _ _ _ _ _ _ (heap_alloc_last wr _)]; rfl
                  rw [hW0]
                  have Y0 : Hid (By W0 a' m c x.b) := X0.out.by5.below T1.out.b
                  have LB : Hid (x.b.length = m) := Y0.out.len
                  generalize wr.heap.size = B at *
                  clear hW0 T x0 x1 x2 x3 x4 x5
                  go_upto_if 86 with fail
                  go_cut [] from 84 to 90 (fun wx => ∃ s1 : St, Hid (Duo w wx pa p q pb p' q' 24 s1 ar va s1 ar vw) ∧ Hid (s1.writes ≤ s.writes + 17 ∧ s1.lives ≤ s.lives + 1))
                  case first =>
                    by_cases o4 : x.op = 4
                    · have m4 : (x.op == 4) = true := beq_iff_eq.2 o4
                      clear o4
                      go_wp2_with fail
                      refine Calls.mono (On_any p q 24 s _ T1.out.d (by have := WL.out; omega)) ?_
                      rintro e w2 ⟨rfl, d2, g2⟩
                      have T2 : Hid _ := T1.out.grA d2 g2
                      clear d2 g2
                      go_wp2_with fail
                      refine Calls.mono (KOn_any p' q' 24 s _ T2.out.k (by have := WL.out; omega)) ?_
                      rintro e w3 ⟨rfl, k3, g3⟩
                      have T3 : Hid _ := T2.out.grB k3 g3
                      clear k3 g3
                      go_wp2
                      go_meet
                      case rel => exact ⟨_, T3.out, by show s.writes ≤ _; omega, Nat.le_refl _⟩
                    · have m4 : (x.op == 4) = false := beq_eq_false_iff_ne.2 o4
                      clear o4
                      go_wp2
                      go_meet
                      case rel => exact ⟨s, T1.out, by omega, by omega⟩
                  case rest =>
                    obtain ⟨s1, N1, BW⟩ := hcut
                    cases ho : s1.on with
                    | false =>
                      have HO : Hid _ := ho
                      clear ho
                      go_wp2_with fail
                      refine Calls.mono (Open_off _ p q 24 s1 N1.out.d fi co (by decide) h1 h2 HO.out) ?_
                      rintro e w4 ⟨rfl, rfl⟩
                      go_wp2_with fail
                      refine Calls.mono (kOpen_off _ p' q' 24 s1 N1.out.k fi co (by decide) h1 h2 HO.out) ?_
                      rintro e w5 ⟨rfl, rfl⟩
                      go_wp2
                      go_roundg (len - (k + 1))
                      case measure => omega
                      case rel => exact ⟨k + 1, pa, pb, s1, ar, _, _, by omega, rfl, rfl, rfl, by go_num, N1.out, by have := BD.out; have := BW.out; exact ⟨by omega, by omega⟩⟩
                    | true =>
                      have HO : Hid _ := ho
                      clear ho
                      go_wp2_with fail
                      refine Calls.mono (Open_yes _ p q 24 s1 N1.out.d N1.out.tab fi co (by decide) h1 h2 HO.out (by have := BW.out; have := WL.out; omega)) ?_
                      rintro e w4 ⟨va4, rfl, a4, o4, b4⟩
                      have A4 : Hid _ := And.intro a4 (And.intro o4 b4)
                      clear a4 o4 b4
                      go_wp2_with fail
                      refine Calls.mono (kOpen_yes w4 p' q' 24 s1 (N1.out.k.below A4.out.2.2) fi co (by decide) h1 h2 HO.out (by have := BW.out; have := WL.out; omega)) ?_
                      rintro e w5 ⟨vw5, rfl, a5, o5, b5, sm5⟩
                      have N5 : Hid _ := Both.duo N1.out.both TT.out A4.out.1 A4.out.2.1 A4.out.2.2 a5 o5 b5 (opn_ok N1.out.d.ok (by decide) h2 (by have := BW.out; have := WL.out; omega)) sm5 (laidP_opn _ _ _)
                      clear a5 o5 b5 sm5 A4
                      generalize opn s1 fi co = ar5 at *
                      generalize wc.heap.size = pa5 at *
                      generalize w4.heap.size = pb5 at *
                      have N : Hid _ := N5.out
                      go_wp2_with fail
                      refine Calls.mono (same_any w _ pa5 p q pb5 p' q' 24 _ _ _ _ _ N.out) ?_
                      rintro e w9 ⟨rfl, b9⟩
                      have N9 : Hid _ := N.out.below b9
                      clear b9
                      go_wp2
                      go_roundg (len - (k + 1))
                      case measure => omega
                      case rel => exact ⟨k + 1, pa5, pb5, s1, ar5, _, _, by omega, rfl, rfl, rfl, by go_num, N9.out, by have := BD.out; have := BW.out; exact ⟨by omega, by omega⟩⟩
    · obtain rfl : len = k := by omega
      go_wp2
      go_ret
      exact ⟨rfl, T.out.b⟩

theorem walk (w : World) (T : Tab w) (fi : Int) (hfi : (Lit.int .i64 fi).wf = true) (co : Int) (hco : (Lit.int .i64 co).wf = true) (a : Option Addr) (len cap : Nat) (f : Nat → Ac5) (hf : Acts5 w a len cap f) : Calls Tryd.prog 4 #[.int .i64 fi, .int .i64 co, .slice a len cap] w fun e w' => e = .returned (.bool true) ∧ Below w.heap.size w w' := by
  by_cases h : fi < 0 ∨ co < 1 ∨ ((24 : Nat) : Int) < fi + co
  · exact walk_no w T fi co a len cap (bounds_i64 hco).2 h
  · obtain ⟨F, rfl⟩ : ∃ F : Nat, fi = F := ⟨fi.toNat, by omega⟩
    obtain ⟨C, rfl⟩ : ∃ C : Nat, co = C := ⟨co.toNat, by omega⟩
    by_cases h1 : 60 < len
    · exact walk_big w T F C a len cap (by omega) (by omega) h1
    · exact walk_main w T F C a len cap f hf (by omega) (by omega) (by omega)


set_option maxRecDepth 100000 in
theorem contract (H : Type) (enc : TypeId × Value → H) (W : World) (base : Nat) (args : Array Value) (ds gs : List (DataW H)) (before : List MemPlace)
    (hval : ∀ (j : Nat) t v, Tryd.f4.params[j]? = some t → args[j]? = some v → Value.okWide Tryd.prog W .any base t v)
    (hW : DataW.Whole enc Tryd.prog Tryd.f4.params.toList Rows.framePlaysSpec.vars false W args.toList ds gs before) (hL : laidMetH Tryd.prog Rows.framePlaysRow.laid W) :
    Calls Tryd.prog 4 args W fun e W' => ∃ v, e = .returned v ∧ Rows.framePlaysSpec.post enc Tryd.prog Tryd.f4 false true false false W args v W' := by
  have hW' := hW
  obtain ⟨p, q, hA0, hV, rfl, hfz, hnd⟩ := hW
  have hA : DataW.TrodAll enc Tryd.prog W 0 (fun _ => true) true Tryd.f4.params.toList args.toList ds p := hA0
  have hT : Tab W := tab_of hL
  rw [Tryd.params4] at hA hval
  obtain ⟨v0, vs0, d0, ds0, p0, q0, hargs, rfl, rfl, h0, r0⟩ := trodAll_cons hA
  obtain ⟨v1, vs1, d1, ds1, p1, q1, rfl, rfl, rfl, h1, r1⟩ := trodAll_cons r0
  obtain ⟨v2, vs2, d2, ds2, p2, q2, rfl, rfl, rfl, h2, r2⟩ := trodAll_cons r1
  obtain ⟨rfl, rfl, rfl⟩ := trodAll_nil r2
  obtain rfl : args = #[v0, v1, v2] := by cases args; simp_all
  obtain ⟨rfl, rfl⟩ := trodVars_none hV
  obtain ⟨a0, rfl, rfl, rfl, w0⟩ := open_int Tryd.underlying3 (hval 0 3 v0 rfl rfl) h0
  obtain ⟨a1, rfl, rfl, rfl, w1⟩ := open_int Tryd.underlying3 (hval 1 3 v1 rfl rfl) h1
  obtain ⟨a2, len2, cap2, rfl⟩ := okWide_slice Tryd.underlying37 (hval 2 37 v2 rfl rfl)
  have k2 := h2
  have lt2 : ∀ x ∈ p2, x.block < W.heap.size := by obtain ⟨m, hm⟩ := k2; exact DataW.trod_lt m _ _ _ hm
  obtain ⟨z2, w2⟩ : ∃ zs, Acts5 W a2 len2 cap2 zs := by
    obtain ⟨fuel, hf⟩ := h2
    exact acts5_of hf
  clear hA0
  refine (walk W hT a0 w0 a1 w1 a2 len2 cap2 z2 w2).mono fun e W' ⟨he, bel⟩ => ?_
  subst he
  exact ⟨_, rfl, _, _, _, [], _, [], hW', trodAll_mk1 (shut_bool Tryd.underlying4 _), (trodAll_cons_mk (shut_int Tryd.underlying3 w0) (trodAll_cons_mk (shut_int Tryd.underlying3 w1) (trodAll_cons_mk (Below.trod laidOut (by kernel_rfl) (of_decide_eq_true (by kernel_rfl)) k2 bel lt2) trodAll_mk0))), rfl, bel.frame _, fun h => by cases h⟩

/-- A world for the witness: the table laid. -/
noncomputable def laidWorld (os : Os) : World :=
  { World.holding Tryd.prog os ⟨#[], #[], []⟩ with heap := (World.holding Tryd.prog os ⟨#[], #[], []⟩).heap.modify 0 fun
      | .cells _ t frozen => .cells (tabL.map (Value.int .u32)).toArray t frozen
      | o => o }
theorem laid_met (os : Os) : laidMet Tryd.prog Rows.framePlaysRow.laid ((laidWorld os).forCall (fun _ _ => 0) ⟨#[], #[.int .i64 0, .int .i64 0, .slice none 0 0], []⟩).memory :=
  laidMet_of_run' 8 (by kernel_rfl) (by kernel_rfl)
theorem reads (os : Os) {H : Type} (enc : TypeId × Value → H) : ∃ places, DataW.whole enc Tryd.prog ((laidWorld os).forCall (fun _ _ => 0) ⟨#[], #[.int .i64 0, .int .i64 0, .slice none 0 0], []⟩).memory Tryd.f4.params.toList Rows.framePlaysSpec.vars false (#[.int .i64 0, .int .i64 0, .slice none 0 0] : Array Value).toList 8 = some ([.lit (.int .i64 0), .lit (.int .i64 0), .nil], [], places) :=
  ⟨[], by kernel_rfl⟩

set_option maxRecDepth 100000 in
theorem lifted (os : Os) (started : os.Started) (H : Type) (enc : TypeId × Value → H) (F : Stop.Interp) :
    ReturnsInHanded {} Tryd.checked os 4 .any ((OpenSpec.ofChange Rows.framePlaysSpec).preRow enc Tryd.prog Tryd.f4 Rows.framePlaysRow.domain false Rows.framePlaysRow.laid) (((OpenSpec.ofChange Rows.framePlaysSpec).at F).post enc Tryd.prog Tryd.f4 false true false false) := by
  obtain ⟨places, hx⟩ := reads os enc
  refine returnsInHanded_of_row (C := Tryd.checked) (s := OpenSpec.ofChange Rows.framePlaysSpec) own started (by kernel_rfl) Tryd.func4
    (witness_row_at (enc := enc) (C := Tryd.checked) false (laidWorld os) #[.int .i64 0, .int .i64 0, .slice none 0 0] rfl (by kernel_rfl) (by kernel_rfl) (by kernel_rfl)
      (OpenSpec.preRow_of_cond 8 hx (by kernel_rfl) (fun k hk => by cases hk) (by kernel_rfl) (laid_met os))) ?_
  intro W base args ds gs before hval hW _ _ _ hL _ _
  exact contract H enc W base args ds gs before hval hW hL

theorem said : Rows.FramePlaysSaid :=
  OpenClaim.holds_of_cond 4 Tryd.f4 rfl rfl rfl rfl rfl rfl rfl ⟨rfl, rfl, rfl, rfl, rfl⟩ rfl rfl rfl rfl rfl (by kernel_rfl) Tryd.func4 (by kernel_rfl)
    (of_decide_eq_true (by kernel_rfl)) (by unfold Func.isWrapper; first | (rw [if_pos (by decide +kernel)]; kernel_rfl) | (rw [if_neg (by decide +kernel)]; exact ⟨rfl, rfl⟩))
    (fun os started H enc _ F => by rw [OpenClaim.pre_eq_preRow]; exact lifted os started H enc F)

set_option maxRecDepth 100000 in
theorem plain (f : FuncId) (fn : Func) (hf : Tryd.pinned.checked.prog.funcNamed "publican/publicanlaw5.FramePlays" = some f) (hfn : Tryd.pinned.checked.prog.funcs[f]? = some fn) :
    false = Tryd.pinned.checked.prog.looks [] ∧ ∀ (j : Nat) t, fn.params[j]? = some t → Tryd.pinned.checked.prog.wantsStandIn t = false := by
  obtain rfl : f = 4 := Option.some.inj ((show Tryd.prog.funcNamed "publican/publicanlaw5.FramePlays" = some 4 by kernel_rfl).symm.trans hf) |>.symm
  obtain rfl : fn = Tryd.f4 := (Option.some.inj (Tryd.func4.symm.trans hfn)).symm
  refine ⟨by kernel_rfl, fun j t ht => ?_⟩
  rw [Tryd.params4] at ht
  have hm : t = 3 ∨ t = 37 := by have := Array.mem_of_getElem? ht; simp at this; omega
  rcases hm with rfl | rfl
  · exact (show Tryd.prog.wantsStandIn 3 = false by kernel_rfl)
  · exact (show Tryd.prog.wantsStandIn 37 = false by kernel_rfl)

theorem card : Rows.FramePlaysCardSaid :=
  Claim7.holds_tied_plain_at .later [] _ _ _ _ said (fun _ h => by cases h) (by kernel_rfl) (fun _ h => by cases h) framePlays_row_tie rfl ⟨rfl, rfl⟩ (by kernel_rfl) rfl plain (by kernel_rfl)

end Go.Proofs.YtblmfkdcahhhbaaDoor.framePlays
namespace Go.Proofs.YtblmfkdcahhhbaaDoor

theorem FramePlays_holds : Rows.FramePlaysCardSaid := framePlays.card

end Go.Proofs.YtblmfkdcahhhbaaDoor
