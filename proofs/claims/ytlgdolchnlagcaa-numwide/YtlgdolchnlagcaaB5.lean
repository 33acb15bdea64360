/- The walks over package publicanref1, on: the difference of two numbers by digits; sums, whatever the signs. -/
import Derived.Test.YtlgdolchnlagcaaB4
import Derived.RegionTactic
import Derived.ChangeAlike
namespace Go.Proofs.Ytlgdolchnlagcaa
open Go.RowKit
set_option linter.unusedVariables false

theorem AddW.dr {w wr : World} {na nb : Bool} {a b : Option Addr} {n m ca cb : Nat} (h : AddW w na nb a b n m ca cb wr) (k : Nat) : AddW w na nb a b n m ca cb (wr.drewN k) := h.next (below_drewN (Below.refl _ _) k)

theorem set2_same {W : World} {c : Nat} {x y u v : Value} (hx : W.cell? ⟨c, 0, none⟩ = some x) (hy : W.cell? ⟨c, 1, none⟩ = some y) :
    ((W.setCell ⟨c, 0, none⟩ u).setCell ⟨c, 1, none⟩ v).cell? ⟨c, 0, none⟩ = some u ∧ ((W.setCell ⟨c, 0, none⟩ u).setCell ⟨c, 1, none⟩ v).cell? ⟨c, 1, none⟩ = some v :=
  ⟨(World.cell?_setCell_other _ _ _ _ (by simp)).trans (World.cell?_setCell_same _ _ _ hx),
   World.cell?_setCell_same _ _ _ (u := y) ((World.cell?_setCell_other _ _ _ _ (by simp)).trans hy)⟩
theorem set2_other {W : World} {c : Nat} {u v : Value} {p : Addr} (ne : p.block ≠ c) : ((W.setCell ⟨c, 0, none⟩ u).setCell ⟨c, 1, none⟩ v).cell? p = W.cell? p :=
  (World.cell?_setCell_other _ _ _ _ (fun e => ne (by rw [← e]))).trans (World.cell?_setCell_other _ _ _ _ (fun e => ne (by rw [← e])))
theorem AddW.swap {w W : World} {na nb : Bool} {a b : Option Addr} {n m ca cb : Nat} (h : AddW w nb na b a m n cb ca W) :
    AddW w na nb a b n m ca cb ((((W.setCell ⟨w.heap.size, 0, none⟩ (.bool na)).setCell ⟨w.heap.size, 1, none⟩ (.slice a n ca)).setCell ⟨w.heap.size + 1, 0, none⟩ (.bool nb)).setCell ⟨w.heap.size + 1, 1, none⟩ (.slice b m cb)) := by
  have p := set2_same (u := .bool na) (v := .slice a n ca) h.a0 h.a1
  have q0 : ((W.setCell ⟨w.heap.size, 0, none⟩ (.bool na)).setCell ⟨w.heap.size, 1, none⟩ (.slice a n ca)).cell? ⟨w.heap.size + 1, 0, none⟩ = some (.bool na) := (set2_other (by simp)).trans h.b0
  have q1 : ((W.setCell ⟨w.heap.size, 0, none⟩ (.bool na)).setCell ⟨w.heap.size, 1, none⟩ (.slice a n ca)).cell? ⟨w.heap.size + 1, 1, none⟩ = some (.slice a n ca) := (set2_other (by simp)).trans h.b1
  have r := set2_same (u := .bool nb) (v := .slice b m cb) q0 q1
  refine ⟨(set2_other (by simp)).trans p.1, (set2_other (by simp)).trans p.2, r.1, r.2, ((set2_other (by simp)).trans (set2_other (by simp))).trans h.r0, ((set2_other (by simp)).trans (set2_other (by simp))).trans h.r1, fun o => by simpa using h.fz o, ?_, by simpa using h.sz⟩
  exact (((h.bl.setCell (p := ⟨w.heap.size, 0, none⟩) (Nat.le_refl _) _).setCell (p := ⟨w.heap.size, 1, none⟩) (Nat.le_refl _) _).setCell (p := ⟨w.heap.size + 1, 0, none⟩) (Nat.le_add_right _ _) _).setCell (p := ⟨w.heap.size + 1, 1, none⟩) (Nat.le_add_right _ _) _

/-- One digit of a difference. -/
theorem dif_step {da db ds : List Int} {c x1 x2 : Int} {i : Nat} (hl : ds.length = i) (h1 : x1 = da.getD i 0) (h2 : x2 = db.getD i 0) (h : dval ds = low da i - low db i + c * pw i) :
    dval (ds ++ [(x1 + 65536 - x2 - c) % 65536]) = low da (i + 1) - low db (i + 1) + (1 - (x1 + 65536 - x2 - c) / 65536) * pw (i + 1) := by
  rw [dval_snoc, low_succ, low_succ, hl, ← h1, ← h2]
  have e : pw (i + 1) = 65536 * pw i := rfl
  rw [e]
  have r := split_mul (x1 + 65536 - x2 - c) (pw i)
  have r2 : (x1 + 65536 - x2 - c) * pw i = x1 * pw i + 65536 * pw i - x2 * pw i - c * pw i := by rw [Int.sub_mul, Int.sub_mul, Int.add_mul]
  rw [Int.sub_mul, Int.one_mul]
  omega

theorem dif_fin {da db ds : List Int} {c : Int} {n : Nat} (oa : DsOk da) (ob : DsOk db) (os : DsOk ds) (la : da.length = n) (lb : db.length ≤ n) (ls : ds.length = n) (c0 : 0 ≤ c) (ge : dval db ≤ dval da)
    (h : dval ds = low da n - low db n + c * pw n) : dval ds = dval da - dval db := by
  rw [low_all (ds := da) (i := n) (by omega), low_all (ds := db) (i := n) lb] at h
  have l := dval_lt os
  rw [ls] at l
  have p := pw_pos n
  have : c < 1 := by
    rcases Int.lt_or_le c 1 with q | q
    · exact q
    · have := Int.mul_le_mul_of_nonneg_right q (show 0 ≤ pw n by omega); omega
  have z : c = 0 := by omega
  subst z
  omega

set_option maxHeartbeats 4000000 in
theorem bsub_ge (na nb : Bool) (a b : Option Addr) (n m ca cb : Nat) (da db : List Int) (w : World) (ha : Dg w a n ca da) (hb : Dg w b m cb db) (ta : Trim da) (tb : Trim db) (hn : n ≤ 33) (hm : m ≤ 33) (hs : nb = !na) (ge : dval db ≤ dval da) (lim : dval da < pw 32) :
    Calls Try.prog 19 #[.agg #[.bool na, .slice a n ca], .agg #[.bool nb, .slice b m cb]] w fun e w' => NewB w w' e (sgn na (dval da - dval db)) ∧ Below w.heap.size w w' := by
  obtain ⟨i0, hi, hz0, hz1, hz2⟩ := info_parts info26
  have HI : Hid _ := hi
  have HZ : Hid _ := And.intro hz0 (And.intro hz1 hz2)
  clear hi hz0 hz1 hz2
  have ne : (na == nb) = false := by cases na <;> cases nb <;> simp_all
  have HA : Hid _ := ha
  have HB : Hid _ := hb
  have TA : Hid _ := ta
  have TB : Hid _ := tb
  have LIM : Hid _ := lim
  have GE : Hid _ := ge
  have mn : m ≤ n := by
    rcases Nat.lt_or_ge n m with q | q
    · have := less_len ha.ok hb.ok tb (by rw [ha.len, hb.len]; exact q); omega
    · exact q
  have SW := AddW.start w na nb a b n m ca cb
  have HSW : Hid _ := SW
  have dec : decide (dval da < dval db) = false := by simp; omega
  clear ha hb ta tb lim SW ge hs
  go_enter Try.func19, Try.ntmps19
  go_wp2_with fail
  refine (less_any a b n m ca cb da db _ (HA.out.below HSW.out.bl) (HB.out.below HSW.out.bl) TA.out TB.out (by omega) (by omega)).mono ?_
  rintro e w0 ⟨rfl, k0, rfl⟩
  rw [dec]
  clear dec
  go_wp2_with fail
  have SN : Hid _ := (AddW.start w na nb a b n m ca cb).dr k0
  clear HSW
  go_loopg [5, 6, 7] 35 (fun g d cv iv wr => ∃ (i : Nat) (c : Int) (ds : List Int), g = 35 - i ∧ iv = .int .i64 i ∧ cv = .int .u64 c ∧ 0 ≤ c ∧ c ≤ 1 ∧ i ≤ n ∧ wr.ownsRow (w.heap.size + 3) 26 1 d ds.length (ds.map (Value.int .u64)) ∧ AddW w na nb a b n m ca cb wr ∧ Hid (DsOk ds) ∧ Hid (ds.length = i) ∧ Hid (dval ds = low da i - low db i + c * pw i))
  case atStart => exact ⟨0, 0, [], rfl, rfl, rfl, by omega, by omega, by omega, World.ownsRow_nil _ _ _ _, SN.out, fun d hd => by simp at hd, rfl, by show (0 : Int) = 0 - 0 + 0 * 1; omega⟩
  case round =>
    obtain ⟨i, c, ds, rfl, rfl, rfl, c0, c1, hi, hown, hA, hok, hlen, hval⟩ := hrel
    have t1 := hA.a1
    have t2 := hA.b1
    have DB := HB.out.below (hA.bl)
    by_cases cont : i < n
    · have n1 : (i : Int) < (n : Int) := by omega
      obtain ⟨ba, oa, k1, k2⟩ := (HA.out.below hA.bl).cell
      have e1 := k2 i cont
      obtain rfl := k1 (by omega)
      have y1 := HA.out.ok.getD i
      have y2 := HB.out.ok.getD i
      have cB : ∀ W, Dg W b m cb db → Calls Try.prog 36 #[.slice b m cb, .int .i64 i] W fun e w' => e = .returned (.int .u64 (db.getD i 0)) ∧ w' = W := fun W h => digit_any b m cb db i W h (by omega)
      have hstep := dif_step (c := c) hlen.out (rfl : da.getD i 0 = da.getD i 0) (rfl : db.getD i 0 = db.getD i 0) hval.out
      clear k1 k2
      generalize da.getD i 0 = x1 at *
      generalize db.getD i 0 = x2 at *
      unfold K16 at y1 y2
      obtain ⟨y10, y11⟩ := y1
      obtain ⟨y20, y21⟩ := y2
      have m16 := mask16 (x1 + 65536 - x2 - c) (by omega) (by omega)
      have HS : Hid _ := hstep
      have CB : Hid _ := cB
      have hl34 : ds.length ≤ 34 := by rw [hlen.out]; omega
      have hsz := hA.sz
      have x0 : 0 ≤ x1 + 65536 - x2 - c := by omega
      have xs : x1 + 65536 - x2 - c < 131072 := by omega
      clear cB hstep
      go_wp2_with fail
      go_quiet (first | (go_at_call_of 36 (Value.slice b m cb); exact Calls.quiet_of_same (CB.out _ (by first | exact DB | exact DB.dr _ | exact DB.d1))))
      go_wp2_with (first | (at_builtin; refine wpList_append_own _ rfl (.tmp 45) (.tmp 48) 33 rfl (w.heap.size + 3) 26 i0 (.int .u64 0) 1 8 Try.underlying33 HI.out HZ.out.1 HZ.out.2.1 HZ.out.2.2 rfl (by decide) _ _ _ rfl (by exact hown.alloc _) ⟨wr.heap.size, 0, none⟩ 1 1 [.int .u64 ((x1 + 65536 - x2 - c) % 65536)] rfl rfl ?c1 ?c2 ?c3 ?c4 ?c5 ?_))
      case c1 => exact cell_one_new _ _ _
      case c2 => intro u hu; simp at hu; subst hu; rfl
      case c3 => unfold maxLen; omega
      case c4 => omega
      case c5 => simp; omega
      intro v' w1 hown' hgrow _
      have R := owns_stepD hsz (Below.refl _ _) hown hown' hgrow
      have A' := hA.next R.2.1
      have hok' : Hid (DsOk (ds ++ [(x1 + 65536 - x2 - c) % 65536])) := hok.out.snoc (by omega) (by unfold K16; omega)
      have hlen' : Hid ((ds ++ [(x1 + 65536 - x2 - c) % 65536]).length = i + 1) := by show _ = _; rw [List.length_append, hlen.out]; rfl
      have RR : Hid _ := And.intro R.1 A'
      clear hown hown' hgrow m16 R A' hA DB t1 t2 e1
      go_wp2
      go_roundg (35 - (i + 1))
      case measure => omega
      case rel => exact ⟨i + 1, 1 - (x1 + 65536 - x2 - c) / 65536, ds ++ [(x1 + 65536 - x2 - c) % 65536], rfl, by go_num, by go_num, by omega, by omega, by omega, RR.out.1, RR.out.2, hok', hlen', HS.out⟩
    · have hin : i = n := by omega
      have e : dval ds = dval da - dval db := dif_fin HA.out.ok HB.out.ok hok.out HA.out.len (by rw [HB.out.len]; exact mn) (by rw [hlen.out, hin]) c0 (by have := GE.out; omega) (by rw [← hin]; exact hval.out)
      obtain ⟨x, cap, rfl, dg, far⟩ := Dg.of_owns hown hok.out
      have HE : Hid _ := e
      have hl34 : ds.length ≤ 34 := by rw [hlen.out]; omega
      have n1 : ¬ (i : Int) < (n : Int) := by omega
      have lt : dval ds < pw 32 := by rw [e]; have := dval_nonneg HB.out.ok; have := LIM.out; omega
      clear e hown cont hval hin
      have t3 := hA.a0
      go_wp2_with fail
      refine (trim_any _ _ _ _ _ _ dg (by omega)).mono ?_
      rintro e w1 ⟨⟨k, hk, rfl, hcut⟩, hb1⟩
      have F : Hid _ := hA.fin na dg far hk hcut hb1 lt
      have q := hA.next (hb1.mono (by have := hA.sz; omega))
      have d0 := q.r0
      have d1 := q.r1
      have g0 := q.fz
      have FAR : Hid _ := far
      clear t1 t2 t3 DB hA q far hcut hb1 lt
      generalize hsg : (na && decide (0 < k)) = sg at *
      clear hsg
      go_wp2
      refine bodyPost_ret (v := .agg #[.bool sg, .slice x k cap]) (by simp [results, Try.results19, go_sem, d0, d1]) rfl ⟨⟨sg, x, k, cap, _, rfl, HE.out ▸ (F.out _ _).1, fun _ y hy => by have := FAR.out y hy; omega⟩, (F.out _ _).2⟩

set_option maxHeartbeats 4000000 in
theorem bsub_lt (na nb : Bool) (a b : Option Addr) (n m ca cb : Nat) (da db : List Int) (w : World) (ha : Dg w a n ca da) (hb : Dg w b m cb db) (ta : Trim da) (tb : Trim db) (hn : n ≤ 33) (hm : m ≤ 33) (hs : nb = !na) (ge : dval db < dval da) (lim : dval da < pw 32) :
    Calls Try.prog 19 #[.agg #[.bool nb, .slice b m cb], .agg #[.bool na, .slice a n ca]] w fun e w' => NewB w w' e (sgn na (dval da - dval db)) ∧ Below w.heap.size w w' := by
  obtain ⟨i0, hi, hz0, hz1, hz2⟩ := info_parts info26
  have HI : Hid _ := hi
  have HZ : Hid _ := And.intro hz0 (And.intro hz1 hz2)
  clear hi hz0 hz1 hz2
  have ne : (nb == na) = false := by cases na <;> cases nb <;> simp_all
  have HA : Hid _ := ha
  have HB : Hid _ := hb
  have TA : Hid _ := ta
  have TB : Hid _ := tb
  have LIM : Hid _ := lim
  have GE : Hid _ := ge
  have mn : m ≤ n := by
    rcases Nat.lt_or_ge n m with q | q
    · have := less_len ha.ok hb.ok tb (by rw [ha.len, hb.len]; exact q); omega
    · exact q
  have SW := AddW.start w nb na b a m n cb ca
  have HSW : Hid _ := SW
  have dec : decide (dval db < dval da) = true := by simp; omega
  clear ha hb ta tb lim SW ge hs
  go_enter Try.func19, Try.ntmps19
  go_wp2_with fail
  refine (less_any b a m n cb ca db da _ (HB.out.below HSW.out.bl) (HA.out.below HSW.out.bl) TB.out TA.out (by omega) (by omega)).mono ?_
  rintro e w0 ⟨rfl, k0, rfl⟩
  rw [dec]
  clear dec
  go_wp2_with fail
  have SN : Hid _ := ((AddW.start w nb na b a m n cb ca).dr k0).swap
  clear HSW
  go_loopg [5, 6, 7] 35 (fun g d cv iv wr => ∃ (i : Nat) (c : Int) (ds : List Int), g = 35 - i ∧ iv = .int .i64 i ∧ cv = .int .u64 c ∧ 0 ≤ c ∧ c ≤ 1 ∧ i ≤ n ∧ wr.ownsRow (w.heap.size + 3) 26 1 d ds.length (ds.map (Value.int .u64)) ∧ AddW w na nb a b n m ca cb wr ∧ Hid (DsOk ds) ∧ Hid (ds.length = i) ∧ Hid (dval ds = low da i - low db i + c * pw i))
  case atStart => exact ⟨0, 0, [], rfl, rfl, rfl, by omega, by omega, by omega, World.ownsRow_nil _ _ _ _, SN.out, fun d hd => by simp at hd, rfl, by show (0 : Int) = 0 - 0 + 0 * 1; omega⟩
  case round =>
    obtain ⟨i, c, ds, rfl, rfl, rfl, c0, c1, hi, hown, hA, hok, hlen, hval⟩ := hrel
    have t1 := hA.a1
    have t2 := hA.b1
    have DB := HB.out.below (hA.bl)
    by_cases cont : i < n
    · have n1 : (i : Int) < (n : Int) := by omega
      obtain ⟨ba, oa, k1, k2⟩ := (HA.out.below hA.bl).cell
      have e1 := k2 i cont
      obtain rfl := k1 (by omega)
      have y1 := HA.out.ok.getD i
      have y2 := HB.out.ok.getD i
      have cB : ∀ W, Dg W b m cb db → Calls Try.prog 36 #[.slice b m cb, .int .i64 i] W fun e w' => e = .returned (.int .u64 (db.getD i 0)) ∧ w' = W := fun W h => digit_any b m cb db i W h (by omega)
      have hstep := dif_step (c := c) hlen.out (rfl : da.getD i 0 = da.getD i 0) (rfl : db.getD i 0 = db.getD i 0) hval.out
      clear k1 k2
      generalize da.getD i 0 = x1 at *
      generalize db.getD i 0 = x2 at *
      unfold K16 at y1 y2
      obtain ⟨y10, y11⟩ := y1
      obtain ⟨y20, y21⟩ := y2
      have m16 := mask16 (x1 + 65536 - x2 - c) (by omega) (by omega)
      have HS : Hid _ := hstep
      have CB : Hid _ := cB
      have hl34 : ds.length ≤ 34 := by rw [hlen.out]; omega
      have hsz := hA.sz
      have x0 : 0 ≤ x1 + 65536 - x2 - c := by omega
      have xs : x1 + 65536 - x2 - c < 131072 := by omega
      clear cB hstep
      go_wp2_with fail
      go_quiet (first | (go_at_call_of 36 (Value.slice b m cb); exact Calls.quiet_of_same (CB.out _ (by first | exact DB | exact DB.dr _ | exact DB.d1))))
      go_wp2_with (first | (at_builtin; refine wpList_append_own _ rfl (.tmp 45) (.tmp 48) 33 rfl (w.heap.size + 3) 26 i0 (.int .u64 0) 1 8 Try.underlying33 HI.out HZ.out.1 HZ.out.2.1 HZ.out.2.2 rfl (by decide) _ _ _ rfl (by exact hown.alloc _) ⟨wr.heap.size, 0, none⟩ 1 1 [.int .u64 ((x1 + 65536 - x2 - c) % 65536)] rfl rfl ?c1 ?c2 ?c3 ?c4 ?c5 ?_))
      case c1 => exact cell_one_new _ _ _
      case c2 => intro u hu; simp at hu; subst hu; rfl
      case c3 => unfold maxLen; omega
      case c4 => omega
      case c5 => simp; omega
      intro v' w1 hown' hgrow _
      have R := owns_stepD hsz (Below.refl _ _) hown hown' hgrow
      have A' := hA.next R.2.1
      have hok' : Hid (DsOk (ds ++ [(x1 + 65536 - x2 - c) % 65536])) := hok.out.snoc (by omega) (by unfold K16; omega)
      have hlen' : Hid ((ds ++ [(x1 + 65536 - x2 - c) % 65536]).length = i + 1) := by show _ = _; rw [List.length_append, hlen.out]; rfl
      have RR : Hid _ := And.intro R.1 A'
      clear hown hown' hgrow m16 R A' hA DB t1 t2 e1
      go_wp2
      go_roundg (35 - (i + 1))
      case measure => omega
      case rel => exact ⟨i + 1, 1 - (x1 + 65536 - x2 - c) / 65536, ds ++ [(x1 + 65536 - x2 - c) % 65536], rfl, by go_num, by go_num, by omega, by omega, by omega, RR.out.1, RR.out.2, hok', hlen', HS.out⟩
    · have hin : i = n := by omega
      have e : dval ds = dval da - dval db := dif_fin HA.out.ok HB.out.ok hok.out HA.out.len (by rw [HB.out.len]; exact mn) (by rw [hlen.out, hin]) c0 (by have := GE.out; omega) (by rw [← hin]; exact hval.out)
      obtain ⟨x, cap, rfl, dg, far⟩ := Dg.of_owns hown hok.out
      have HE : Hid _ := e
      have hl34 : ds.length ≤ 34 := by rw [hlen.out]; omega
      have n1 : ¬ (i : Int) < (n : Int) := by omega
      have lt : dval ds < pw 32 := by rw [e]; have := dval_nonneg HB.out.ok; have := LIM.out; omega
      clear e hown cont hval hin
      have t3 := hA.a0
      go_wp2_with fail
      refine (trim_any _ _ _ _ _ _ dg (by omega)).mono ?_
      rintro e w1 ⟨⟨k, hk, rfl, hcut⟩, hb1⟩
      have F : Hid _ := hA.fin na dg far hk hcut hb1 lt
      have q := hA.next (hb1.mono (by have := hA.sz; omega))
      have d0 := q.r0
      have d1 := q.r1
      have g0 := q.fz
      have FAR : Hid _ := far
      clear t1 t2 t3 DB hA q far hcut hb1 lt
      generalize hsg : (na && decide (0 < k)) = sg at *
      clear hsg
      go_wp2
      refine bodyPost_ret (v := .agg #[.bool sg, .slice x k cap]) (by simp [results, Try.results19, go_sem, d0, d1]) rfl ⟨⟨sg, x, k, cap, _, rfl, HE.out ▸ (F.out _ _).1, fun _ y hy => by have := FAR.out y hy; omega⟩, (F.out _ _).2⟩

theorem sgn_not (na : Bool) (n : Int) : sgn (!na) n = -sgn na n := by cases na <;> simp [sgn]
theorem sgn_add (na : Bool) (x y : Int) : sgn na (x + y) = sgn na x + sgn na y := by cases na <;> simp [sgn]; omega
theorem sgn_sub (na : Bool) (x y : Int) : sgn na (x - y) = sgn na x - sgn na y := by cases na <;> simp [sgn]; omega

/-- The sum of two numbers by digits. -/
theorem badd_any (na nb : Bool) (a b : Option Addr) (n m ca cb : Nat) (da db : List Int) (x y : Int) (w : World) (ha : Bg w na a n ca da x) (hb : Bg w nb b m cb db y) (lim : dval da + dval db < pw 32) :
    Calls Try.prog 19 #[.agg #[.bool na, .slice a n ca], .agg #[.bool nb, .slice b m cb]] w fun e w' => NewB w w' e (x + y) ∧ Below w.heap.size w w' := by
  have sa := ha.small
  have sb := hb.small
  have pa := dval_nonneg ha.dg.ok
  have pb := dval_nonneg hb.dg.ok
  rw [ha.val, hb.val]
  by_cases s : na = nb
  · subst s
    rw [← sgn_add]
    exact badd_same na a b n m ca cb da db w ha.dg hb.dg (by omega) (by omega) lim
  · have hs : nb = !na := by cases na <;> cases nb <;> simp_all
    by_cases g : dval db ≤ dval da
    · have e : sgn na (dval da) + sgn nb (dval db) = sgn na (dval da - dval db) := by rw [hs, sgn_not, sgn_sub]; omega
      rw [e]
      exact bsub_ge na nb a b n m ca cb da db w ha.dg hb.dg ha.trim hb.trim (by omega) (by omega) hs g (by omega)
    · have hs' : na = !nb := by rw [hs]; cases na <;> rfl
      have e : sgn na (dval da) + sgn nb (dval db) = sgn nb (dval db - dval da) := by rw [hs', sgn_not, sgn_sub]; omega
      rw [e]
      exact bsub_lt nb na b a m n cb ca db da w hb.dg ha.dg hb.trim ha.trim (by omega) (by omega) hs' (by omega) (by omega)

end Go.Proofs.Ytlgdolchnlagcaa
