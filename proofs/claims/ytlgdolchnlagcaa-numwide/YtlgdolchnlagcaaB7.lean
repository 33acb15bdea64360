/- The walks over package publicanref1, on: the product of two numbers by digits. -/
import Derived.Test.YtlgdolchnlagcaaB6
import Derived.Deep.OwnRows
namespace Go.Proofs.Ytlgdolchnlagcaa
open Go.RowKit Go.Deep
set_option linter.unusedVariables false

theorem getD_set (ds : List Int) (i j : Nat) (y : Int) (h : i < ds.length) : (ds.set i y).getD j 0 = if j = i then y else ds.getD j 0 := by
  by_cases e : j = i
  · subst e; simp [List.getD, h]
  · rw [if_neg e]; simp [List.getD, show ¬ i = j by omega]
theorem low_set (ds : List Int) (i : Nat) (y : Int) (h : i < ds.length) : ∀ k, low (ds.set i y) k = low ds k + if i < k then (y - ds.getD i 0) * pw i else 0 := by
  intro k
  induction k with
  | zero => simp [low_zero]
  | succ k ih =>
    rw [low_succ, low_succ, ih, getD_set _ _ _ _ h]
    by_cases e : k = i
    · subst e
      rw [if_pos rfl, if_neg (by omega), if_pos (by omega), Int.sub_mul]; omega
    · rw [if_neg e]
      by_cases l : i < k
      · rw [if_pos l, if_pos (by omega)]; omega
      · rw [if_neg l, if_neg (by omega)]; omega
theorem dval_set (ds : List Int) (i : Nat) (y : Int) (h : i < ds.length) : dval (ds.set i y) = dval ds + (y - ds.getD i 0) * pw i := by
  have e := low_set ds i y h ds.length
  rw [if_pos h, low_all (ds := ds) (Nat.le_refl _), low_all (ds := ds.set i y) (i := ds.length) (by simp)] at e
  exact e
theorem DsOk.set {ds : List Int} (h : DsOk ds) (i : Nat) {y : Int} (h0 : 0 ≤ y) (h1 : y < K16) : DsOk (ds.set i y) := by
  intro d hd
  rcases List.mem_or_eq_of_mem_set hd with q | q
  · exact h d q
  · subst q; exact ⟨h0, h1⟩

/-- The digits of a row that is written. -/
structure Rw (wr : World) (g N : Nat) (ds : List Int) : Prop where
  row : wr.rowIs g 26 N (fun j => .int .u64 (ds.getD j 0))
  len : ds.length = N
  ok : DsOk ds
theorem Rw.set {wr : World} {g N : Nat} {ds : List Int} (h : Rw wr g N ds) {j : Nat} (hj : j < N) {y : Int} (h0 : 0 ≤ y) (h1 : y < K16) : Rw (wr.setCell ⟨g, j, none⟩ (.int .u64 y)) g N (ds.set j y) := by
  refine ⟨(h.row.set j _).congr (fun i _ => ?_), by rw [List.length_set]; exact h.len, h.ok.set j h0 h1⟩
  rw [getD_set _ _ _ _ (by rw [h.len]; exact hj)]
  by_cases e : i = j
  · simp [e]
  · simp [e]
theorem Rw.dr {wr : World} {g N : Nat} {ds : List Int} (h : Rw wr g N ds) (k : Nat) : Rw (wr.drewN k) g N ds := ⟨h.row, h.len, h.ok⟩
theorem Rw.dg {wr : World} {g N : Nat} {ds : List Int} (h : Rw wr g N ds) (hN : N ≤ 1000) : Dg wr (some ⟨g, 0, none⟩) N N ds :=
  ⟨h.len, Nat.le_refl _, by unfold maxLen; omega, ⟨g, 0, fun _ => rfl, fun i hi => by rw [Nat.zero_add]; exact h.row.cell hi⟩, h.ok⟩
theorem dval_zeros : ∀ N, dval (List.replicate N 0) = 0 := by
  intro N
  induction N with
  | zero => rfl
  | succ N ih => rw [List.replicate_succ]; simp only [dval]; rw [ih]; rfl
theorem Rw.made (w : World) (N : Nat) : Rw (w.alloc (.cells (madeCells #[.int .u64 0] N) 26)) w.heap.size N (List.replicate N 0) := by
  refine ⟨(World.rowIs_made w (.int .u64 0) N 26).congr (fun i hi => ?_), by simp, fun d hd => ?_⟩
  · simp [List.getD, hi]
  · have := List.eq_of_mem_replicate hd
    subst this; decide

/-- One digit of a product. -/
theorem mul_step {da db ds : List Int} {i k N : Nat} {c x : Int} (hl : ds.length = N) (hik : i + k < N) (L : Int)
    (h : dval ds + c * pw (i + k) = L + da.getD i 0 * low db k * pw i) (hx : x = ds.getD (i + k) 0 + da.getD i 0 * db.getD k 0 + c) :
    dval (ds.set (i + k) (x % 65536)) + x / 65536 * pw (i + (k + 1)) = L + da.getD i 0 * low db (k + 1) * pw i := by
  rw [dval_set _ _ _ (by omega), low_succ]
  have e : pw (i + (k + 1)) = 65536 * pw (i + k) := rfl
  rw [e]
  have r := split_mul x (pw (i + k))
  have e2 : da.getD i 0 * (low db k + db.getD k 0 * pw k) * pw i = da.getD i 0 * low db k * pw i + da.getD i 0 * db.getD k 0 * pw (i + k) := by
    rw [Int.mul_add, Int.add_mul, pw_add]
    congr 1
    rw [Int.mul_assoc (da.getD i 0), Int.mul_assoc (da.getD i 0), Int.mul_assoc (db.getD k 0), Int.mul_comm (pw k)]
  rw [e2]
  have e3 : x * pw (i + k) = ds.getD (i + k) 0 * pw (i + k) + da.getD i 0 * db.getD k 0 * pw (i + k) + c * pw (i + k) := by rw [hx, Int.add_mul, Int.add_mul]
  rw [Int.sub_mul]
  omega

/-- The carry is spent behind the last digit. -/
theorem mul_carry {da db ds : List Int} {i m : Nat} {c : Int} (oa : DsOk da) (ob : DsOk db) (os : DsOk ds) (lb : db.length = m) (c0 : 0 ≤ c)
    (h : dval ds + c * pw (i + (m + 1)) = low da i * dval db + da.getD i 0 * low db (m + 1) * pw i) : c = 0 := by
  rw [low_all (ds := db) (i := m + 1) (by omega)] at h
  have e : low da i * dval db + da.getD i 0 * dval db * pw i = low da (i + 1) * dval db := by
    rw [low_succ, Int.add_mul, Int.mul_right_comm]
  rw [e] at h
  have a1 := low_lt oa (i + 1)
  have a0 := low_nonneg oa (i + 1)
  have b1 := dval_lt ob
  have b0 := dval_nonneg ob
  rw [lb] at b1
  have p1 := pw_pos (i + 1)
  have t : low da (i + 1) * dval db ≤ (pw (i + 1) - 1) * pw m := Int.mul_le_mul (by omega) (by omega) b0 (by omega)
  have q : pw (i + (m + 1)) = pw (i + 1) * pw m := by rw [show i + (m + 1) = (i + 1) + m by omega, pw_add]
  rw [Int.sub_mul, Int.one_mul, ← q] at t
  have pm := pw_pos m
  have d := dval_nonneg os
  have pp := pw_pos (i + (m + 1))
  rcases Int.lt_or_le c 1 with z | z
  · omega
  · have := Int.mul_le_mul_of_nonneg_right z (show 0 ≤ pw (i + (m + 1)) by omega)
    omega

theorem mul_next {da db : List Int} (i : Nat) : low da i * dval db + da.getD i 0 * dval db * pw i = low da (i + 1) * dval db := by
  rw [low_succ, Int.add_mul, Int.mul_right_comm]

set_option maxHeartbeats 4000000 in
theorem bmul_digits (na nb : Bool) (a b : Option Addr) (n m ca cb : Nat) (da db : List Int) (w : World) (ha : Dg w a n ca da) (hb : Dg w b m cb db) (hn : n ≤ 33) (hm : m ≤ 33) (lim : dval da * dval db < pw 32) :
    Calls Try.prog 21 #[.agg #[.bool na, .slice a n ca], .agg #[.bool nb, .slice b m cb]] w fun e w' => NewB w w' e (sgn (na != nb) (dval da * dval db)) ∧ Below w.heap.size w w' := by
  have hmk := run_make_row' (P := Try.prog) 33 26 (.int .u64 0) 8 Try.underlying33 info26 rfl .i64 .i64 (n + m + 1) (by omega) (by omega)
  have en : ((n + m + 1 : Nat) : Int) = (n : Int) + (m : Int) + 1 := by omega
  rw [en] at hmk
  clear en
  have HA : Hid _ := ha
  have HB : Hid _ := hb
  have LIM : Hid _ := lim
  have SW := AddW.start w na nb a b n m ca cb
  have HSW : Hid _ := SW
  clear ha hb lim SW
  go_enter Try.func21, Try.ntmps21
  go_wp2_with fail
  have RW := Rw.made (((w.alloc (.cells #[.bool na, .slice a n ca] 35)).alloc (.cells #[.bool nb, .slice b m cb] 35)).alloc (.cells #[.bool false, .slice none 0 0] 35)) (n + m + 1)
  have AW := HSW.out.next ((Below.refl (w.heap.size + 3) _).alloc (by simp) (.cells (madeCells #[Value.int IntKind.u64 0] (n + m + 1)) 26))
  have sz : (((w.alloc (.cells #[.bool na, .slice a n ca] 35)).alloc (.cells #[.bool nb, .slice b m cb] 35)).alloc (.cells #[.bool false, .slice none 0 0] 35)).heap.size = w.heap.size + 1 + 1 + 1 := by simp
  rw [sz] at RW
  have HRW : Hid _ := RW
  have HAW : Hid _ := AW
  clear RW AW sz hmk HSW
  have nN : n + m < n + m + 1 := by omega
  have dz := dval_zeros (n + m + 1)
  have DZ : Hid _ := dz
  clear dz
  generalize hg : w.heap.size + 1 + 1 + 1 = g at *
  generalize hN : n + m + 1 = N at *
  have HG : Hid (g = w.heap.size + 3) := by show _ = _; omega
  have HN : Hid (N = n + m + 1) := hN.symm
  have N67 : N ≤ 67 := by omega
  clear hg hN
  go_loopg [6] n (fun gh iv wr => ∃ (i : Nat) (ds : List Int), gh = n - i ∧ iv = .int .i64 i ∧ i ≤ n ∧ Hid (Rw wr g N ds) ∧ Hid (AddW w na nb a b n m ca cb wr) ∧ Hid (dval ds = low da i * dval db))
  case atStart => exact ⟨0, List.replicate N 0, rfl, rfl, by omega, HRW.out, HAW.out, by show _ = _; rw [DZ.out, low_zero]; omega⟩
  case round =>
    obtain ⟨i, ds, rfl, rfl, hi, hR, hA, hval⟩ := hrel
    have t1 := hA.out.a1
    have t2 := hA.out.b1
    by_cases cont : i < n
    · have n1 : (i : Int) < (n : Int) := by omega
      obtain ⟨ba, oa, k1, k2⟩ := HA.out.cell
      have e1 := k2 i cont
      have lt1 := World.block_lt_of_cell? _ _ e1
      obtain rfl := k1 (by omega)
      have y1 := HA.out.ok.getD i
      have HE1 : Hid (w.cell? ⟨ba, oa + i, none⟩ = some (.int .u64 (da.getD i 0))) := e1
      have X1 : Hid _ := y1
      clear e1 k1 k2 y1
      go_wp2_with fail
      clear t1 t2
      go_loopg [7, 8] (m + 2) (fun gh cv kv wx => ∃ (k : Nat) (c : Int) (dx : List Int), gh = m + 2 - k ∧ kv = .int .i64 k ∧ cv = .int .u64 c ∧ 0 ≤ c ∧ c < 65536 ∧ k ≤ m + 1 ∧ (k ≤ m ∨ c = 0) ∧ Hid (Rw wx g N dx) ∧ Hid (AddW w na nb (some ⟨ba, oa, none⟩) b n m ca cb wx) ∧ Hid (dval dx + c * pw (i + k) = low da i * dval db + da.getD i 0 * low db k * pw i))
      case atStart => exact ⟨0, 0, ds, rfl, rfl, rfl, by omega, by omega, by omega, by omega, hR.out, hA.out, by show _ = _; rw [hval.out, low_zero]; simp⟩
      case round =>
        obtain ⟨k, c, dx, rfl, rfl, rfl, c0, c1, hk, hkc, hRx, hAx, hvx⟩ := hrel
        have t1 := hAx.out.a1
        have t2 := hAx.out.b1
        by_cases cont2 : k < m ∨ 0 < c
        · have km : k ≤ m := by omega
          have ik : i + k < N := by have := HN.out; omega
          have e1 : wr.cell? ⟨ba, oa + i, none⟩ = some (.int .u64 (da.getD i 0)) := by rw [hAx.out.bl.cell (p := ⟨ba, oa + i, none⟩) lt1]; exact HE1.out
          have e2 := hRx.out.row.cell ik
          have f2 := hRx.out.row.frozen (i + k)
          have y3 := hRx.out.ok.getD (i + k)
          have y2 := HB.out.ok.getD k
          have y1 := X1.out
          have DB := HB.out.below hAx.out.bl
          have cB : ∀ W, Dg W b m cb db → Calls Try.prog 36 #[.slice b m cb, .int .i64 k] W fun e w' => e = .returned (.int .u64 (db.getD k 0)) ∧ w' = W := fun W h => digit_any b m cb db k W h (by omega)
          have hst : ∀ x, x = dx.getD (i + k) 0 + da.getD i 0 * db.getD k 0 + c → dval (dx.set (i + k) (x % 65536)) + x / 65536 * pw (i + (k + 1)) = low da i * dval db + da.getD i 0 * low db (k + 1) * pw i := fun x hx => mul_step hRx.out.len ik _ hvx.out hx
          have hcar : k = m → ∀ x, x = dx.getD (i + k) 0 + da.getD i 0 * db.getD k 0 + c → 0 ≤ x → x / 65536 = 0 := fun e x hx x0 => by
            have st := mul_step hRx.out.len ik _ hvx.out hx
            have ok' := hRx.out.ok.set (i + k) (y := x % 65536) (by omega) (by unfold K16; omega)
            rw [e] at st ok'
            exact mul_carry HA.out.ok HB.out.ok ok' HB.out.len (by omega) st
          have HCAR : Hid _ := hcar
          clear hcar
          have HST : Hid _ := hst
          have CB : Hid _ := cB
          clear hst cB
          generalize da.getD i 0 = x1 at *
          generalize db.getD k 0 = x2 at *
          generalize hx3 : dx.getD (i + k) 0 = x3 at *
          clear hx3
          unfold K16 at y1 y2 y3
          obtain ⟨y10, y11⟩ := y1
          obtain ⟨y20, y21⟩ := y2
          obtain ⟨y30, y31⟩ := y3
          have pr0 : 0 ≤ x1 * x2 := Int.mul_nonneg y10 y20
          have pr1 : x1 * x2 ≤ 4294836225 := by
            have := Int.mul_le_mul (show x1 ≤ 65535 by omega) (show x2 ≤ 65535 by omega) y20 (by omega)
            omega
          generalize hpp : x1 * x2 = p at HST HCAR pr0 pr1
          have hp : IntKind.u64.wrap (x1 * x2) = p := by rw [hpp]; exact wrapId pr0 (by omega)
          clear hpp
          have m16 := mask16 (x3 + p + c) (by omega) (by omega)
          have ikN : (i : Int) + (k : Int) < (N : Int) := by omega
          have tn : ((i : Int) + (k : Int)).toNat = i + k := by omega
          have two : k < m ∨ (¬ k < m ∧ 0 < c) := by omega
          clear cont2
          rcases two with q | q
          · have n2 : (k : Int) < (m : Int) := by omega
            go_wp2_with fail
            go_quiet (first | (go_at_call_of 36 (Value.slice b m cb); exact Calls.quiet_of_same (CB.out _ (by first | exact DB | exact DB.dr _ | exact DB.d1))))
            go_wp2
            go_roundg (m + 2 - (k + 1))
            case measure => omega
            case rel => exact ⟨k + 1, (x3 + p + c) / 65536, dx.set (i + k) ((x3 + p + c) % 65536), rfl, by go_num, rfl, by omega, by omega, by omega, by (rcases Nat.lt_or_ge k m with z | z; exact Or.inl z; exact Or.inr (HCAR.out (by omega) _ rfl (by omega))), (hRx.out.dr _).set ik (by omega) (by unfold K16; omega), (hAx.out.dr _).next ((Below.refl (w.heap.size + 3) _).setCell (p := ⟨g, i + k, none⟩) (by show _ ≤ g; have := HG.out; omega) _), HST.out _ rfl⟩
          · have n2 : ¬ (k : Int) < (m : Int) := by omega
            have n3 : 0 < c := q.2
            go_wp2_with fail
            go_quiet (first | (go_at_call_of 36 (Value.slice b m cb); exact Calls.quiet_of_same (CB.out _ (by first | exact DB | exact DB.dr _ | exact DB.d1))))
            go_wp2
            go_roundg (m + 2 - (k + 1))
            case measure => omega
            case rel => exact ⟨k + 1, (x3 + p + c) / 65536, dx.set (i + k) ((x3 + p + c) % 65536), rfl, by go_num, rfl, by omega, by omega, by omega, by (rcases Nat.lt_or_ge k m with z | z; exact Or.inl z; exact Or.inr (HCAR.out (by omega) _ rfl (by omega))), (hRx.out.dr _).set ik (by omega) (by unfold K16; omega), (hAx.out.dr _).next ((Below.refl (w.heap.size + 3) _).setCell (p := ⟨g, i + k, none⟩) (by show _ ≤ g; have := HG.out; omega) _), HST.out _ rfl⟩
        · have cz : c = 0 := by omega
          have nv : dval dx = low da (i + 1) * dval db := by
            have v := hvx.out
            rw [cz, low_all (ds := db) (i := k) (by have := HB.out.len; omega), mul_next] at v
            omega
          have NV : Hid _ := nv
          have n2 : ¬ (k : Int) < (m : Int) := by omega
          have n3 : ¬ 0 < c := by omega
          subst cz
          clear nv cont2 hvx
          go_wp2
          go_roundg (n - (i + 1))
          case measure => omega
          case rel => exact ⟨i + 1, dx, rfl, by go_num, by omega, hRx.out, hAx.out, NV.out⟩
    · have hin : i = n := by omega
      have e : dval ds = dval da * dval db := by
        rw [hval.out, low_all (ds := da) (i := i) (by have := HA.out.len; omega)]
      have HE : Hid _ := e
      have dg := hR.out.dg (by omega)
      have n1 : ¬ (i : Int) < (n : Int) := by omega
      have lt : dval ds < pw 32 := by rw [e]; exact LIM.out
      have LT : Hid _ := lt
      have sl : ds.length = N := hR.out.len
      have SL : Hid _ := sl
      clear e hval hin cont lt sl
      have t3 := hA.out.a0
      have t4 := hA.out.b0
      go_wp2_with fail
      refine (trim_any _ _ _ _ _ _ dg (by omega)).mono ?_
      rintro e w1 ⟨⟨k, hk, rfl, hcut⟩, hb1⟩
      have F : Hid _ := hA.out.fin (!(na == nb)) (x := some ⟨g, 0, none⟩) (ds := ds) (cap := N) (k := k) (by rw [SL.out]; exact dg) (fun y hy => by simp at hy; subst hy; show _ ≤ g; have := HG.out; omega) (by rw [SL.out]; exact hk) (by rw [SL.out]; exact hcut) hb1 LT.out
      have q := hA.out.next (hb1.mono (by have := hA.out.sz; omega))
      have d0 := q.r0
      have d1 := q.r1
      have g0 := q.fz
      have gw : w.heap.size ≤ g := by have := HG.out; omega
      clear t1 t2 t3 t4 q hcut hb1 dg
      have hv : sgn (!(na == nb)) (dval ds) = sgn (na != nb) (dval da * dval db) := by rw [HE.out]; rfl
      have HV : Hid _ := hv
      clear hv
      generalize hsg : (!(na == nb) && decide (0 < k)) = sg at *
      clear hsg
      go_wp2
      refine bodyPost_ret (v := .agg #[.bool sg, .slice (some ⟨g, 0, none⟩) k N]) (by simp [results, Try.results21, go_sem, d0, d1]) rfl ⟨⟨sg, _, k, N, _, rfl, HV.out ▸ (F.out _ _).1, fun _ y hy => by simp at hy; subst hy; exact gw⟩, (F.out _ _).2⟩

theorem sgn_mul (na nb : Bool) (x y : Int) : sgn (na != nb) (x * y) = sgn na x * sgn nb y := by cases na <;> cases nb <;> simp [sgn, Int.neg_mul, Int.mul_neg]

/-- The product of two numbers by digits. -/
theorem bmul_any (na nb : Bool) (a b : Option Addr) (n m ca cb : Nat) (da db : List Int) (x y : Int) (w : World) (ha : Bg w na a n ca da x) (hb : Bg w nb b m cb db y) (lim : dval da * dval db < pw 32) :
    Calls Try.prog 21 #[.agg #[.bool na, .slice a n ca], .agg #[.bool nb, .slice b m cb]] w fun e w' => NewB w w' e (x * y) ∧ Below w.heap.size w w' := by
  have sa := ha.small
  have sb := hb.small
  rw [ha.val, hb.val, ← sgn_mul]
  exact bmul_digits na nb a b n m ca cb da db w ha.dg hb.dg (by omega) (by omega) lim

end Go.Proofs.Ytlgdolchnlagcaa
