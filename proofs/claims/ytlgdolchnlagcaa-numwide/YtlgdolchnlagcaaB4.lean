/- The walks over package publicanref1, on: the sum of two numbers by digits. -/
import Derived.Test.YtlgdolchnlagcaaB3
import Derived.BigQuiet
import Derived.Deep.QuietTactic
namespace Go.Proofs.Ytlgdolchnlagcaa
open Go.RowKit
set_option linter.unusedVariables false

theorem Dg.dr {w : World} {a : Option Addr} {n cap : Nat} {ds : List Int} (h : Dg w a n cap ds) (k : Nat) : Dg (w.drewN k) a n cap ds := ⟨h.len, h.fits, h.max, h.cell, h.ok⟩
theorem Dg.d1 {w : World} {a : Option Addr} {n cap : Nat} {ds : List Int} (h : Dg w a n cap ds) : Dg w.drew a n cap ds := ⟨h.len, h.fits, h.max, h.cell, h.ok⟩

theorem owns_stepD {W w1 w' : World} {B q : Nat} {v v' : Value} {ds : List Int} {x : Int} (hB : B ≤ w1.heap.size) (hbl : Below B W w1) (hown : w1.ownsRow B 26 1 v ds.length (ds.map (Value.int .u64)))
    (h' : w'.ownsRow B 26 1 v' (ds.length + 1) (ds.map (Value.int .u64) ++ [Value.int .u64 x])) (hg : ((w1.alloc (.cells #[.int .u64 x] 26)).drewN q).grownBy w' v.ownBlock) :
    w'.ownsRow B 26 1 v' (ds ++ [x]).length ((ds ++ [x]).map (Value.int .u64)) ∧ Below B W w' ∧ B ≤ w'.heap.size :=
  owns_step hB hbl hown h' ⟨hg.os, hg.tape, hg.output, hg.size, hg.block⟩

/-- One digit of a sum. -/
theorem split_mul (t p : Int) : t * p = t / 65536 * (65536 * p) + t % 65536 * p := by
  have q : t = 65536 * (t / 65536) + t % 65536 := by omega
  have r : t * p = (65536 * (t / 65536) + t % 65536) * p := by rw [← q]
  rw [r, Int.add_mul, Int.mul_assoc, Int.mul_left_comm]
theorem sum_step {da db ds : List Int} {c x1 x2 : Int} {i : Nat} (hl : ds.length = i) (h1 : x1 = da.getD i 0) (h2 : x2 = db.getD i 0) (h : dval ds + c * pw i = low da i + low db i) :
    dval (ds ++ [(x1 + x2 + c) % 65536]) + (x1 + x2 + c) / 65536 * pw (i + 1) = low da (i + 1) + low db (i + 1) := by
  rw [dval_snoc, low_succ, low_succ, hl, ← h1, ← h2]
  have e : pw (i + 1) = 65536 * pw i := rfl
  rw [e]
  have r := split_mul (x1 + x2 + c) (pw i)
  have r2 : (x1 + x2 + c) * pw i = x1 * pw i + x2 * pw i + c * pw i := by rw [Int.add_mul, Int.add_mul]
  omega

/-- The call's own first blocks: the two numbers, and the result's place. -/
structure AddW (w : World) (na nb : Bool) (a b : Option Addr) (n m ca cb : Nat) (wr : World) : Prop where
  a0 : wr.cell? ⟨w.heap.size, 0, none⟩ = some (.bool na)
  a1 : wr.cell? ⟨w.heap.size, 1, none⟩ = some (.slice a n ca)
  b0 : wr.cell? ⟨w.heap.size + 1, 0, none⟩ = some (.bool nb)
  b1 : wr.cell? ⟨w.heap.size + 1, 1, none⟩ = some (.slice b m cb)
  r0 : wr.cell? ⟨w.heap.size + 2, 0, none⟩ = some (.bool false)
  r1 : wr.cell? ⟨w.heap.size + 2, 1, none⟩ = some (.slice none 0 0)
  fz : ∀ o, wr.frozen? ⟨w.heap.size + 2, o, none⟩ = false
  bl : Below w.heap.size w wr
  sz : w.heap.size + 3 ≤ wr.heap.size
theorem AddW.next {w wr w' : World} {na nb : Bool} {a b : Option Addr} {n m ca cb : Nat} (h : AddW w na nb a b n m ca cb wr) (hb : Below (w.heap.size + 3) wr w') : AddW w na nb a b n m ca cb w' := by
  obtain ⟨h1, h2, h3, h4, h5, h6, h7, h8, h9⟩ := h
  refine ⟨?_, ?_, ?_, ?_, ?_, ?_, ?_, h8.trans (hb.mono (by omega)), by have := hb.size; omega⟩
  · rw [hb.cell (p := ⟨w.heap.size, 0, none⟩) (by show w.heap.size < _; omega)]; exact h1
  · rw [hb.cell (p := ⟨w.heap.size, 1, none⟩) (by show w.heap.size < _; omega)]; exact h2
  · rw [hb.cell (p := ⟨w.heap.size + 1, 0, none⟩) (by show w.heap.size + 1 < _; omega)]; exact h3
  · rw [hb.cell (p := ⟨w.heap.size + 1, 1, none⟩) (by show w.heap.size + 1 < _; omega)]; exact h4
  · rw [hb.cell (p := ⟨w.heap.size + 2, 0, none⟩) (by show w.heap.size + 2 < _; omega)]; exact h5
  · rw [hb.cell (p := ⟨w.heap.size + 2, 1, none⟩) (by show w.heap.size + 2 < _; omega)]; exact h6
  · intro o; rw [hb.frozen (p := ⟨w.heap.size + 2, o, none⟩) (by show w.heap.size + 2 < _; omega)]; exact h7 o
theorem AddW.start (w : World) (na nb : Bool) (a b : Option Addr) (n m ca cb : Nat) : AddW w na nb a b n m ca cb (((w.alloc (.cells #[.bool na, .slice a n ca] 35)).alloc (.cells #[.bool nb, .slice b m cb] 35)).alloc (.cells #[.bool false, .slice none 0 0] 35)) := by
  have p1 : Below (w.alloc (.cells #[.bool na, .slice a n ca] 35)).heap.size (w.alloc (.cells #[.bool na, .slice a n ca] 35)) ((w.alloc (.cells #[.bool na, .slice a n ca] 35)).alloc (.cells #[.bool nb, .slice b m cb] 35)) := (Below.refl _ _).alloc (Nat.le_refl _) _
  have p2 : Below ((w.alloc (.cells #[.bool na, .slice a n ca] 35)).alloc (.cells #[.bool nb, .slice b m cb] 35)).heap.size ((w.alloc (.cells #[.bool na, .slice a n ca] 35)).alloc (.cells #[.bool nb, .slice b m cb] 35)) (((w.alloc (.cells #[.bool na, .slice a n ca] 35)).alloc (.cells #[.bool nb, .slice b m cb] 35)).alloc (.cells #[.bool false, .slice none 0 0] 35)) := (Below.refl _ _).alloc (Nat.le_refl _) _
  have s1 : (w.alloc (.cells #[.bool na, .slice a n ca] 35)).heap.size = w.heap.size + 1 := by simp
  have s2 : ((w.alloc (.cells #[.bool na, .slice a n ca] 35)).alloc (.cells #[.bool nb, .slice b m cb] 35)).heap.size = w.heap.size + 2 := by simp
  have new0 : ∀ (W : World) (x y : Value), (W.alloc (.cells #[x, y] 35)).cell? ⟨W.heap.size, 0, none⟩ = some x := fun W x y => by simp
  have new1 : ∀ (W : World) (x y : Value), (W.alloc (.cells #[x, y] 35)).cell? ⟨W.heap.size, 1, none⟩ = some y := fun W x y => by simp
  have newf : ∀ (W : World) (x y : Value) (o : Nat), (W.alloc (.cells #[x, y] 35)).frozen? ⟨W.heap.size, o, none⟩ = false := fun W x y o => by simp
  refine ⟨?_, ?_, ?_, ?_, ?_, ?_, ?_, (((Below.refl _ _).alloc (Nat.le_refl _) _).alloc (by simp) _).alloc (by simp; omega) _, by simp⟩
  · rw [p2.cell (p := ⟨w.heap.size, 0, none⟩) (by show w.heap.size < _; omega), p1.cell (p := ⟨w.heap.size, 0, none⟩) (by show w.heap.size < _; omega)]; exact new0 _ _ _
  · rw [p2.cell (p := ⟨w.heap.size, 1, none⟩) (by show w.heap.size < _; omega), p1.cell (p := ⟨w.heap.size, 1, none⟩) (by show w.heap.size < _; omega)]; exact new1 _ _ _
  · rw [p2.cell (p := ⟨w.heap.size + 1, 0, none⟩) (by show w.heap.size + 1 < _; omega), ← s1]; exact new0 _ _ _
  · rw [p2.cell (p := ⟨w.heap.size + 1, 1, none⟩) (by show w.heap.size + 1 < _; omega), ← s1]; exact new1 _ _ _
  · rw [← s2]; exact new0 _ _ _
  · rw [← s2]; exact new1 _ _ _
  · intro o; rw [← s2]; exact newf _ _ _ o

/-- The end of a sum or a difference: noughts are struck, the result is stored. -/
theorem AddW.fin {w wr w1 : World} {na nb : Bool} {a b : Option Addr} {n m ca cb : Nat} {x : Option Addr} {cap k : Nat} {ds : List Int} (h : AddW w na nb a b n m ca cb wr) (neg : Bool) (dg : Dg wr x ds.length cap ds) (far : ∀ y, x = some y → w.heap.size + 3 ≤ y.block)
    (hk : k ≤ ds.length) (hcut : CutAt ds ds.length k) (hb1 : Below wr.heap.size wr w1) (lt : dval ds < pw 32) (u v : Value) :
    Bg ((w1.setCell ⟨w.heap.size + 2, 0, none⟩ u).setCell ⟨w.heap.size + 2, 1, none⟩ v) (neg && decide (0 < k)) x k cap (ds.take k) (sgn neg (dval ds)) ∧ Below w.heap.size w ((w1.setCell ⟨w.heap.size + 2, 0, none⟩ u).setCell ⟨w.heap.size + 2, 1, none⟩ v) := by
  have g := Bg.of_cut (neg := neg) dg hk hcut hb1 lt
  refine ⟨g.store (fun _ y hy => by have := far y hy; omega) _ _, ?_⟩
  have q := h.next (hb1.mono (by have := h.sz; omega))
  exact (q.bl.setCell (p := ⟨w.heap.size + 2, 0, none⟩) (Nat.le_add_right _ _) _).setCell (p := ⟨w.heap.size + 2, 1, none⟩) (Nat.le_add_right _ _) _

set_option maxHeartbeats 2000000 in
theorem badd_same (neg : Bool) (a b : Option Addr) (n m ca cb : Nat) (da db : List Int) (w : World) (ha : Dg w a n ca da) (hb : Dg w b m cb db) (hn : n ≤ 33) (hm : m ≤ 33) (lim : dval da + dval db < pw 32) :
    Calls Try.prog 19 #[.agg #[.bool neg, .slice a n ca], .agg #[.bool neg, .slice b m cb]] w fun e w' => NewB w w' e (sgn neg (dval da + dval db)) ∧ Below w.heap.size w w' := by
  obtain ⟨i0, hi, hz0, hz1, hz2⟩ := info_parts info26
  have HI : Hid _ := hi
  have HZ : Hid _ := And.intro hz0 (And.intro hz1 hz2)
  clear hi hz0 hz1 hz2
  have HA : Hid _ := ha
  have HB : Hid _ := hb
  have LIM : Hid _ := lim
  have SW := AddW.start w neg neg a b n m ca cb
  have HSW : Hid _ := SW
  clear ha hb lim SW
  go_enter Try.func19, Try.ntmps19
  go_wp2_with fail
  go_loopg [9, 10, 11] 35 (fun g d cv iv wr => ∃ (i : Nat) (c : Int) (ds : List Int), g = 35 - i ∧ iv = .int .i64 i ∧ cv = .int .u64 c ∧ 0 ≤ c ∧ c ≤ 1 ∧ i ≤ 34 ∧ (i ≤ n ∨ i ≤ m ∨ c = 0) ∧ wr.ownsRow (w.heap.size + 3) 26 1 d ds.length (ds.map (Value.int .u64)) ∧ AddW w neg neg a b n m ca cb wr ∧ Hid (DsOk ds) ∧ Hid (ds.length = i) ∧ Hid (dval ds + c * pw i = low da i + low db i))
  case atStart => exact ⟨0, 0, [], rfl, rfl, rfl, by omega, by omega, by omega, by omega, World.ownsRow_nil _ _ _ _, HSW.out, fun d hd => by simp at hd, rfl, by show (0 : Int) + 0 * 1 = 0 + 0; omega⟩
  case round =>
    obtain ⟨i, c, ds, rfl, rfl, rfl, c0, c1, hi, hw, hown, hA, hok, hlen, hval⟩ := hrel
    have t1 := hA.a1
    have t2 := hA.b1
    have DA := HA.out.below (hA.bl)
    have DB := HB.out.below (hA.bl)
    by_cases cont : i < n ∨ i < m ∨ 0 < c
    · have y1 := HA.out.ok.getD i
      have y2 := HB.out.ok.getD i
      have zA : n ≤ i → da.getD i 0 = 0 := fun h => by simp [List.getD, show da.length ≤ i by have := HA.out.len; omega]
      have zB : m ≤ i → db.getD i 0 = 0 := fun h => by simp [List.getD, show db.length ≤ i by have := HB.out.len; omega]
      have cA : ∀ W, Dg W a n ca da → Calls Try.prog 36 #[.slice a n ca, .int .i64 i] W fun e w' => e = .returned (.int .u64 (da.getD i 0)) ∧ w' = W := fun W h => digit_any a n ca da i W h (by omega)
      have cB : ∀ W, Dg W b m cb db → Calls Try.prog 36 #[.slice b m cb, .int .i64 i] W fun e w' => e = .returned (.int .u64 (db.getD i 0)) ∧ w' = W := fun W h => digit_any b m cb db i W h (by omega)
      have hstep := sum_step (c := c) hlen.out (rfl : da.getD i 0 = da.getD i 0) (rfl : db.getD i 0 = db.getD i 0) hval.out
      generalize da.getD i 0 = x1 at *
      generalize db.getD i 0 = x2 at *
      unfold K16 at y1 y2
      obtain ⟨y10, y11⟩ := y1
      obtain ⟨y20, y21⟩ := y2
      have m16 := mask16 (x1 + x2 + c) (by omega) (by omega)
      have lim1 : i + 1 ≤ n ∨ i + 1 ≤ m ∨ (x1 + x2 + c) / 65536 = 0 := by
        by_cases q1 : i < n
        · omega
        · by_cases q2 : i < m
          · omega
          · right; right
            have := zA (by omega); have := zB (by omega); omega
      have ZA : Hid _ := And.intro zA (And.intro zB (And.intro hstep lim1))
      have CA : Hid _ := cA
      have CB : Hid _ := cB
      have HL : Hid _ := hw
      have hl34 : ds.length ≤ 34 := by rw [hlen.out]; exact hi
      have hsz := hA.sz
      have i33 : i ≤ 33 := by omega
      clear zA zB cA cB hstep lim1 hw
      have three : (i < n) ∨ (¬ i < n ∧ i < m) ∨ (¬ i < n ∧ ¬ i < m ∧ 0 < c) := by omega
      clear cont
      rcases three with q | q | q
      · have n1 : (i : Int) < (n : Int) := by omega
        go_wp2_with fail
        go_quiet (first | (go_at_call_of 36 (Value.slice a n ca); exact Calls.quiet_of_same (CA.out _ (by first | exact DA | exact DA.dr _ | exact DA.d1))) | (go_at_call_of 36 (Value.slice b m cb); exact Calls.quiet_of_same (CB.out _ (by first | exact DB | exact DB.dr _ | exact DB.d1))))
        go_wp2_with (first | (at_builtin; refine wpList_append_own _ rfl (.tmp 87) (.tmp 90) 33 rfl (w.heap.size + 3) 26 i0 (.int .u64 0) 1 8 Try.underlying33 HI.out HZ.out.1 HZ.out.2.1 HZ.out.2.2 rfl (by decide) _ _ _ rfl (by exact hown.alloc _) ⟨wr.heap.size, 0, none⟩ 1 1 [.int .u64 ((x1 + x2 + c) % 65536)] rfl rfl ?c1 ?c2 ?c3 ?c4 ?c5 ?_))
        case c1 => exact cell_one_new _ _ _
        case c2 => intro u hu; simp at hu; subst hu; rfl
        case c3 => unfold maxLen; omega
        case c4 => omega
        case c5 => simp; omega
        intro v' w1 hown' hgrow _
        have R := owns_stepD hsz (Below.refl _ _) hown hown' hgrow
        have A' := hA.next R.2.1
        have hok' : Hid (DsOk (ds ++ [(x1 + x2 + c) % 65536])) := hok.out.snoc (by omega) (by unfold K16; omega)
        have hlen' : Hid ((ds ++ [(x1 + x2 + c) % 65536]).length = i + 1) := by show _ = _; rw [List.length_append, hlen.out]; rfl
        have RR : Hid _ := And.intro R.1 A'
        clear hown hown' hgrow m16 R A' hA DA DB t1 t2
        go_wp2
        go_roundg (35 - (i + 1))
        case measure => omega
        case rel => exact ⟨i + 1, (x1 + x2 + c) / 65536, ds ++ [(x1 + x2 + c) % 65536], rfl, by go_num, rfl, by omega, by omega, by omega, ZA.out.2.2.2, RR.out.1, RR.out.2, hok', hlen', ZA.out.2.2.1⟩
      · have n1 : ¬ (i : Int) < (n : Int) := by omega
        have n2 : (i : Int) < (m : Int) := by omega
        go_wp2_with fail
        go_quiet (first | (go_at_call_of 36 (Value.slice a n ca); exact Calls.quiet_of_same (CA.out _ (by first | exact DA | exact DA.dr _ | exact DA.d1))) | (go_at_call_of 36 (Value.slice b m cb); exact Calls.quiet_of_same (CB.out _ (by first | exact DB | exact DB.dr _ | exact DB.d1))))
        go_wp2_with (first | (at_builtin; refine wpList_append_own _ rfl (.tmp 87) (.tmp 90) 33 rfl (w.heap.size + 3) 26 i0 (.int .u64 0) 1 8 Try.underlying33 HI.out HZ.out.1 HZ.out.2.1 HZ.out.2.2 rfl (by decide) _ _ _ rfl (by exact hown.alloc _) ⟨wr.heap.size, 0, none⟩ 1 1 [.int .u64 ((x1 + x2 + c) % 65536)] rfl rfl ?c1 ?c2 ?c3 ?c4 ?c5 ?_))
        case c1 => exact cell_one_new _ _ _
        case c2 => intro u hu; simp at hu; subst hu; rfl
        case c3 => unfold maxLen; omega
        case c4 => omega
        case c5 => simp; omega
        intro v' w1 hown' hgrow _
        have R := owns_stepD hsz (Below.refl _ _) hown hown' hgrow
        have A' := hA.next R.2.1
        have hok' : Hid (DsOk (ds ++ [(x1 + x2 + c) % 65536])) := hok.out.snoc (by omega) (by unfold K16; omega)
        have hlen' : Hid ((ds ++ [(x1 + x2 + c) % 65536]).length = i + 1) := by show _ = _; rw [List.length_append, hlen.out]; rfl
        have RR : Hid _ := And.intro R.1 A'
        clear hown hown' hgrow m16 R A' hA DA DB t1 t2
        go_wp2
        go_roundg (35 - (i + 1))
        case measure => omega
        case rel => exact ⟨i + 1, (x1 + x2 + c) / 65536, ds ++ [(x1 + x2 + c) % 65536], rfl, by go_num, rfl, by omega, by omega, by omega, ZA.out.2.2.2, RR.out.1, RR.out.2, hok', hlen', ZA.out.2.2.1⟩
      · have n1 : ¬ (i : Int) < (n : Int) := by omega
        have n2 : ¬ (i : Int) < (m : Int) := by omega
        have n3 : 0 < c := by omega
        go_wp2_with fail
        go_quiet (first | (go_at_call_of 36 (Value.slice a n ca); exact Calls.quiet_of_same (CA.out _ (by first | exact DA | exact DA.dr _ | exact DA.d1))) | (go_at_call_of 36 (Value.slice b m cb); exact Calls.quiet_of_same (CB.out _ (by first | exact DB | exact DB.dr _ | exact DB.d1))))
        go_wp2_with (first | (at_builtin; refine wpList_append_own _ rfl (.tmp 87) (.tmp 90) 33 rfl (w.heap.size + 3) 26 i0 (.int .u64 0) 1 8 Try.underlying33 HI.out HZ.out.1 HZ.out.2.1 HZ.out.2.2 rfl (by decide) _ _ _ rfl (by exact hown.alloc _) ⟨wr.heap.size, 0, none⟩ 1 1 [.int .u64 ((x1 + x2 + c) % 65536)] rfl rfl ?c1 ?c2 ?c3 ?c4 ?c5 ?_))
        case c1 => exact cell_one_new _ _ _
        case c2 => intro u hu; simp at hu; subst hu; rfl
        case c3 => unfold maxLen; omega
        case c4 => omega
        case c5 => simp; omega
        intro v' w1 hown' hgrow _
        have R := owns_stepD hsz (Below.refl _ _) hown hown' hgrow
        have A' := hA.next R.2.1
        have hok' : Hid (DsOk (ds ++ [(x1 + x2 + c) % 65536])) := hok.out.snoc (by omega) (by unfold K16; omega)
        have hlen' : Hid ((ds ++ [(x1 + x2 + c) % 65536]).length = i + 1) := by show _ = _; rw [List.length_append, hlen.out]; rfl
        have RR : Hid _ := And.intro R.1 A'
        clear hown hown' hgrow m16 R A' hA DA DB t1 t2
        go_wp2
        go_roundg (35 - (i + 1))
        case measure => omega
        case rel => exact ⟨i + 1, (x1 + x2 + c) / 65536, ds ++ [(x1 + x2 + c) % 65536], rfl, by go_num, rfl, by omega, by omega, by omega, ZA.out.2.2.2, RR.out.1, RR.out.2, hok', hlen', ZA.out.2.2.1⟩
    · have cz : c = 0 := by omega
      subst cz
      obtain ⟨x, cap, rfl, dg, far⟩ := Dg.of_owns hown hok.out
      have e : dval ds = dval da + dval db := by
        have v := hval.out
        rw [low_all (ds := da) (i := i) (by have := HA.out.len; omega), low_all (ds := db) (i := i) (by have := HB.out.len; omega)] at v
        omega
      have HE : Hid _ := e
      have hl34 : ds.length ≤ 34 := by rw [hlen.out]; exact hi
      have n1 : ¬ (i : Int) < (n : Int) := by omega
      have n2 : ¬ (i : Int) < (m : Int) := by omega
      clear e hown cont hval
      have t3 := hA.a0
      go_wp2_with fail
      refine (trim_any _ _ _ _ _ _ dg (by omega)).mono ?_
      rintro e w1 ⟨⟨k, hk, rfl, hcut⟩, hb1⟩
      have lt : dval ds < pw 32 := by rw [HE.out]; exact LIM.out
      have F : Hid _ := hA.fin neg dg far hk hcut hb1 lt
      have q := hA.next (hb1.mono (by have := hA.sz; omega))
      have d0 := q.r0
      have d1 := q.r1
      have g0 := q.fz
      have FAR : Hid _ := far
      clear t1 t2 t3 DA DB hA q far hcut hb1 lt
      generalize hsg : (neg && decide (0 < k)) = sg at *
      clear hsg
      go_wp2
      refine bodyPost_ret (v := .agg #[.bool sg, .slice x k cap]) (by simp [results, Try.results19, go_sem, d0, d1]) rfl ⟨⟨sg, x, k, cap, _, rfl, HE.out ▸ (F.out _ _).1, fun _ y hy => by have := FAR.out y hy; omega⟩, (F.out _ _).2⟩

end Go.Proofs.Ytlgdolchnlagcaa
