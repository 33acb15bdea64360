/- The walks over package publicanref1: digits in memory; one digit, noughts struck, comparing. -/
import Derived.Test.YtlgdolchnlagcaaB1
import Derived.Test.YtlgdolchnlagcaaW9
import Derived.Deep.LoopGhost
namespace Go.Proofs.Ytlgdolchnlagcaa
open Go.RowKit
set_option linter.unusedVariables false

/-- Digits in memory: a slice of n of them. -/
structure Dg (w : World) (a : Option Addr) (n cap : Nat) (ds : List Int) : Prop where
  len : ds.length = n
  fits : n ≤ cap
  max : cap ≤ maxLen
  cell : ∃ b o : Nat, (0 < n → a = some ⟨b, o, none⟩) ∧ ∀ i, i < n → w.cell? ⟨b, o + i, none⟩ = some (.int .u64 (ds.getD i 0))
  ok : DsOk ds

theorem Dg.below {w w' : World} {a : Option Addr} {n cap : Nat} {ds : List Int} (h : Dg w a n cap ds) (hb : Below w.heap.size w w') : Dg w' a n cap ds := by
  obtain ⟨b, o, h1, h2⟩ := h.cell
  exact ⟨h.len, h.fits, h.max, ⟨b, o, h1, fun i hi => by rw [hb.cell (p := ⟨b, o + i, none⟩) (World.block_lt_of_cell? _ _ (h2 i hi))]; exact h2 i hi⟩, h.ok⟩

theorem Dg.take {w : World} {a : Option Addr} {n cap : Nat} {ds : List Int} (h : Dg w a n cap ds) {m : Nat} (hm : m ≤ n) : Dg w a m cap (ds.take m) := by
  obtain ⟨b, o, h1, h2⟩ := h.cell
  have hl := h.len
  refine ⟨by simp; omega, by have := h.fits; omega, h.max, ⟨b, o, fun p => h1 (by omega), fun i hi => ?_⟩, h.ok.take m⟩
  rw [h2 i (by omega)]
  have : (ds.take m).getD i 0 = ds.getD i 0 := by simp [List.getD, hi]
  rw [this]

theorem dval_take {ds : List Int} {m : Nat} (h : ∀ j, m ≤ j → j < ds.length → ds.getD j 0 = 0) : dval (ds.take m) = dval ds := by
  have key : ∀ k, low ds (m + k) = low ds m := by
    intro k
    induction k with
    | zero => rfl
    | succ k ih =>
      rw [show m + (k + 1) = (m + k) + 1 by omega, low_succ, ih]
      by_cases c : m + k < ds.length
      · rw [h (m + k) (by omega) c]; omega
      · have e : ds.getD (m + k) 0 = 0 := by simp [List.getD, show ds.length ≤ m + k by omega]
        rw [e]; omega
  have e := key ds.length
  rw [low_all (ds := ds) (i := m + ds.length) (by omega)] at e
  exact e.symm

set_option maxHeartbeats 400000 in
theorem digit_any (a : Option Addr) (n cap : Nat) (ds : List Int) (i : Nat) (w : World) (h : Dg w a n cap ds) (hn : n ≤ 1000) :
    Calls Try.prog 36 #[.slice a n cap, .int .i64 i] w fun e w' => e = .returned (.int .u64 (ds.getD i 0)) ∧ w' = w := by
  obtain ⟨b, o, h1, h2⟩ := h.cell
  by_cases c : i < n
  · have c' : (i : Int) < (n : Int) := by omega
    have e := h2 i c
    obtain rfl := h1 (by omega)
    clear h1 h2 h
    generalize ds.getD i 0 = x at *
    go_enter Try.func36, Try.ntmps36
    go_wp2
    go_ret
    exact ⟨rfl, rfl⟩
  · have c' : ¬ (i : Int) < (n : Int) := by omega
    have e : ds.getD i 0 = 0 := by simp [List.getD, show ds.length ≤ i by have := h.len; omega]
    rw [e]
    clear h1 h2 h e
    go_enter Try.func36, Try.ntmps36
    go_wp2
    go_ret
    exact ⟨rfl, rfl⟩

/-- Where the noughts ahead begin. -/
def CutAt (ds : List Int) (n m : Nat) : Prop := (∀ j, m ≤ j → j < n → ds.getD j 0 = 0) ∧ (0 < m → ds.getD (m - 1) 0 ≠ 0)

set_option maxHeartbeats 1000000 in
theorem trim_any (neg : Bool) (a : Option Addr) (n cap : Nat) (ds : List Int) (w : World) (h : Dg w a n cap ds) (hn : n ≤ 1000) :
    Calls Try.prog 37 #[.agg #[.bool neg, .slice a n cap]] w fun e w' => (∃ m : Nat, m ≤ n ∧ e = .returned (.agg #[.bool (neg && decide (0 < m)), .slice a m cap]) ∧ CutAt ds n m) ∧ Below w.heap.size w w' := by
  obtain ⟨b, o, h1, h2⟩ := h.cell
  have hcap := h.fits
  have hmax := h.max
  unfold maxLen at hmax
  have hB : ∀ o1 o2, Below w.heap.size w ((w.alloc o1).alloc o2) := fun o1 o2 => ((Below.refl _ _).alloc (Nat.le_refl _) _).alloc (by simp) _
  have H2 : Hid (∀ i, i < n → ∀ o1 o2, ((w.alloc o1).alloc o2).cell? ⟨b, o + i, none⟩ = some (.int .u64 (ds.getD i 0))) := fun i hi o1 o2 => by
    rw [(hB o1 o2).cell (p := ⟨b, o + i, none⟩) (World.block_lt_of_cell? _ _ (h2 i hi))]; exact h2 i hi
  have H1 : Hid _ := h1
  have HB : Hid _ := hB
  clear h1 h2 h hB
  go_enter Try.func37, Try.ntmps37
  go_wp2_with fail
  go_loop [3] (fun d => ∃ m : Nat, m ≤ n ∧ d = .slice a m cap ∧ Hid (∀ j, m ≤ j → j < n → ds.getD j 0 = 0)) (fun d => match d with | .slice _ l _ => l | _ => 0)
  case atStart => exact ⟨n, Nat.le_refl _, rfl, fun j h1 h2 => by omega⟩
  case round =>
    obtain ⟨m, hm, rfl, hz⟩ := hrel
    cases m with
    | zero =>
      cases neg
      all_goals
        go_wp2
        refine bodyPost_ret (v := .agg #[.bool false, .slice a 0 cap]) (by simp [results, Try.results37, go_sem]) rfl ⟨⟨0, Nat.zero_le _, rfl, hz.out, fun p => by omega⟩, HB.out _ _⟩
    | succ k =>
      obtain rfl := H1.out (by omega)
      have e := H2.out k (by omega)
      have kc : (k : Int) + 1 ≤ (cap : Int) := by omega
      by_cases c : ds.getD k 0 = 0
      · rw [c] at e
        have hz' : Hid (∀ j, k ≤ j → j < n → ds.getD j 0 = 0) := fun j h1 h2 => by
          rcases Nat.eq_or_lt_of_le h1 with q | q
          · rw [← q]; exact c
          · exact hz.out j (by omega) h2
        clear c
        go_wp2
        go_round
        case rel => exact ⟨k, by omega, by go_num, hz'⟩
        case measure => simp
      · have c' : (ds.getD k 0 == 0) = false := beq_eq_false_iff_ne.2 c
        have C : Hid (ds.getD k 0 ≠ 0) := c
        have CA : Hid (CutAt ds n (k + 1)) := ⟨hz.out, fun _ => c⟩
        clear c
        generalize ds.getD k 0 = x at *
        cases neg
        · go_wp2
          exact bodyPost_ret (v := .agg #[.bool false, .slice (some ⟨b, o, none⟩) (k + 1) cap]) (by simp [results, Try.results37, go_sem]) rfl ⟨⟨k + 1, hm, by simp, CA.out⟩, HB.out _ _⟩
        · go_wp2
          exact bodyPost_ret (v := .agg #[.bool true, .slice (some ⟨b, o, none⟩) (k + 1) cap]) (by simp [results, Try.results37, go_sem]) rfl ⟨⟨k + 1, hm, by simp, CA.out⟩, HB.out _ _⟩

theorem retB {a b : Bool} (h : a = b) : Ending.returned (.bool a) = .returned (.bool b) := by rw [h]

set_option maxHeartbeats 1000000 in
theorem less_any (a b : Option Addr) (n m ca cb : Nat) (da db : List Int) (w : World) (ha : Dg w a n ca da) (hb : Dg w b m cb db) (ta : Trim da) (tb : Trim db) (hn : n ≤ 1000) (hm : m ≤ 1000) :
    Calls Try.prog 35 #[.slice a n ca, .slice b m cb] w fun e w' => e = .returned (.bool (decide (dval da < dval db))) ∧ ∃ k, w' = w.drewN k := by
  obtain ⟨ba, oa, h1, h2⟩ := ha.cell
  obtain ⟨bb, ob, k1, k2⟩ := hb.cell
  have la := ha.len
  have lb := hb.len
  by_cases c : n = m
  · subst c
    have H1 : Hid _ := h1
    have H2 : Hid _ := h2
    have K1 : Hid _ := k1
    have K2 : Hid _ := k2
    have HA : Hid _ := ha
    have HB : Hid _ := hb
    have LA : Hid _ := la
    have LB : Hid _ := lb
    clear h1 h2 k1 k2 ha hb la lb ta tb
    go_enter Try.func35, Try.ntmps35
    go_wp2_with fail
    go_loopg [5] n (fun g i wr => ∃ k : Nat, k ≤ n ∧ g = k ∧ i = .int .i64 ((k : Int) - 1) ∧ (∃ x, wr = w.drewN x) ∧ Hid (∀ j, k ≤ j → j < n → da.getD j 0 = db.getD j 0))
    case atStart => exact ⟨n, Nat.le_refl _, rfl, rfl, ⟨0, rfl⟩, fun j x y => by omega⟩
    case round =>
      obtain ⟨k, hk, rfl, rfl, ⟨x, rfl⟩, hz⟩ := hrel
      cases gk with
      | zero =>
        have e : decide (dval da < dval db) = false := by
          have := eq_digits (a := da) (b := db) (by rw [LA.out, LB.out]) (fun j hj => hz.out j (by omega) (by rw [LA.out] at hj; exact hj))
          simp only [decide_eq_false_iff_not]; omega
        have E : Hid _ := e
        clear e
        go_wp2
        go_ret
        exact ⟨retB E.out.symm, x, rfl⟩
      | succ k =>
        rw [show ((k + 1 : Nat) : Int) - 1 = (k : Int) by omega]
        have kn : (k : Int) < (n : Int) := by omega
        obtain rfl := H1.out (by omega)
        obtain rfl := K1.out (by omega)
        have e1 := H2.out k (by omega)
        have e2 := K2.out k (by omega)
        by_cases c : da.getD k 0 = db.getD k 0
        · have hz' : Hid (∀ j, k ≤ j → j < n → da.getD j 0 = db.getD j 0) := fun j h1 h2 => by
            rcases Nat.eq_or_lt_of_le h1 with q | q
            · rw [← q]; exact c
            · exact hz.out j (by omega) h2
          rw [← c] at e2
          clear c
          generalize da.getD k 0 = y at *
          go_wp2
          go_quiet (fail)
          go_wp2
          go_roundg k
          case measure => omega
          case rel => exact ⟨k, by omega, rfl, by go_num, ⟨_, rfl⟩, hz'⟩
        · have r : decide (dval da < dval db) = decide (da.getD k 0 < db.getD k 0) := by
            have LL : da.length = db.length := by rw [LA.out, LB.out]
            by_cases l : da.getD k 0 < db.getD k 0
            · have := less_digit HA.out.ok HB.out.ok LL k (by rw [LA.out]; omega) (fun j p q => hz.out j (by omega) (by rw [LA.out] at q; exact q)) l
              simp only [this, l]
            · have := less_digit HB.out.ok HA.out.ok LL.symm k (by rw [LB.out]; omega) (fun j p q => (hz.out j (by omega) (by rw [LB.out] at q; exact q)).symm) (by omega)
              have q : ¬ dval da < dval db := by omega
              simp only [l, q]
          have RR : Hid _ := r
          have c' : (da.getD k 0 != db.getD k 0) = true := by rw [bne_iff_ne]; exact c
          clear r c
          generalize da.getD k 0 = y at *
          generalize db.getD k 0 = z at *
          go_wp2
          go_quiet (fail)
          go_wp2
          go_quiet (fail)
          go_wp2
          go_ret
          exact ⟨retB RR.out.symm, _, by rw [World.drewN_drewN, World.drewN_drewN]⟩
  · have c' : ((n : Int) != (m : Int)) = true := by rw [bne_iff_ne]; omega
    have r : decide (dval da < dval db) = decide (n < m) := by
      by_cases l : n < m
      · have := less_len ha.ok hb.ok tb (by omega)
        simp [this, l]
      · have := less_len hb.ok ha.ok ta (by omega)
        have q : ¬ dval da < dval db := by omega
        simp only [q, l, decide_false]
    rw [r]
    clear r h1 h2 k1 k2 ha hb la lb ta tb
    go_enter Try.func35, Try.ntmps35
    go_wp2
    go_ret
    exact ⟨rfl, 0, rfl⟩

end Go.Proofs.Ytlgdolchnlagcaa
