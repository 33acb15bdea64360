/- The walks over sign, boolText and decimal. -/
import Derived.Test.YtobolipjgkabhaaDoorSv
namespace Go.Proofs.YtobolipjgkabhaaDoor
open Go.Shelf Go.RowKit
set_option linter.unusedVariables false
set_option linter.unusedSimpArgs false

theorem Ob.at_ {w : World} {B : Nat} {v : Value} {l : List UInt8} (h : Ob w B v l) (h0 : 0 < l.length) : ∃ g c, v = .slice (some ⟨g, 0, none⟩) l.length c ∧ B ≤ g ∧ (∀ i x, l[i]? = some x → w.cell? ⟨g, i, none⟩ = some (.int .u8 x.toNat)) ∧ ∀ i, w.frozen? ⟨g, i, none⟩ = false := by
  rcases h.own.2 with ⟨_, hn⟩ | ⟨g, cap, cur, hv, hg, hk, h1, h2, h3, h4⟩
  · omega
  · refine ⟨g, cap, hv, hg, fun i x hx => ?_, fun i => by simp [World.frozen?, hk]⟩
    have hu : (Lib.byteCells l)[i]? = some (.int .u8 x.toNat) := by unfold Lib.byteCells; rw [List.getElem?_map, hx]; rfl
    have l1 := (List.getElem?_eq_some_iff.1 hx).1
    rw [← h4, List.getElem?_take_of_lt (by omega), Array.getElem?_toList] at hu
    simp [World.cell?, hk, hu]
theorem Ob.set {w : World} {B g c : Nat} {l : List UInt8} (h : Ob w B (.slice (some ⟨g, 0, none⟩) l.length c) l) (i : Nat) (hi : i < l.length) (x : UInt8) : Ob (w.setCell ⟨g, i, none⟩ (.int .u8 x.toNat)) B (.slice (some ⟨g, 0, none⟩) l.length c) (l.set i x) := by
  rcases h.own.2 with ⟨hv, hn⟩ | ⟨g', cap, cur, hv, hg, hk, h1, h2, h3, h4⟩
  · cases hv
  · injection hv with e1 e2 e3
    injection e1 with e1
    injection e1 with e1
    subst e1 e3
    refine ⟨⟨by simp [Lib.byteCells], .inr ⟨g, c, cur.setIfInBounds i (.int .u8 x.toNat), by simp, hg, ?_, by simpa using h1, h2, by simpa using h3, ?_⟩⟩, by simpa using h.ba⟩
    · simp [World.setCell, Array.getElem?_modify, hk]
    · have := h4
      unfold Lib.byteCells at this ⊢
      rw [List.map_set, ← this]
      simp [List.take_set]
theorem Ob.wt {w0 w : World} {B g c : Nat} {l : List UInt8} (h : Ob w B (.slice (some ⟨g, 0, none⟩) l.length c) l) (k : Wt B w0 w) (i : Nat) (x : UInt8) : Wt B w0 (w.setCell ⟨g, i, none⟩ (.int .u8 x.toNat)) := by
  rcases h.own.2 with ⟨hv, hn⟩ | ⟨g', cap, cur, hv, hg, hk, h1, h2, h3, h4⟩
  · cases hv
  · injection hv with e1 e2 e3
    injection e1 with e1
    injection e1 with e1
    subst e1 e3
    refine ⟨k.bl.setCell (p := ⟨g, i, none⟩) hg _, fun j o hj hb ho => ?_⟩
    have := k.ok j o hj hb ho
    by_cases e : j = g
    · subst e
      rw [hk] at this
      injection this with this
      exact absurd this.symm (ho _ _)
    · rw [Below.heap_setCell w ⟨g, i, none⟩ _ j e]
      exact this
theorem sign_pos (n : Nat) (w : World) : Calls Tryd.prog 37 #[.int .i64 (n : Nat)] w fun e w' => e = .returned (.string ⟨#[]⟩) ∧ w = w' := by
  have h : ¬ (n : Int) < 0 := by omega
  go_enter Tryd.func37, Tryd.ntmps37
  go_wp2
  go_ret
  exact ⟨rfl, rfl⟩
theorem boolText_any (n : Nat) (w : World) (h : n ≤ 1) : Calls Tryd.prog 34 #[.int .i64 (n : Nat)] w fun e w' => e = .returned (.string (if n = 1 then ⟨#[116, 114, 117, 101]⟩ else ⟨#[102, 97, 108, 115, 101]⟩)) ∧ w = w' := by
  rcases Nat.lt_or_ge n 1 with c | c
  · obtain rfl : n = 0 := by omega
    go_enter Tryd.func34, Tryd.ntmps34
    go_wp2
    go_ret
    exact ⟨rfl, rfl⟩
  · obtain rfl : n = 1 := by omega
    go_enter Tryd.func34, Tryd.ntmps34
    go_wp2
    go_ret
    exact ⟨rfl, rfl⟩
/-- A number in units of so many, with a dot. -/
def decU (unit n : Nat) : List UInt8 := Lib.decDigits (n / unit) ++ (Lib.decDigits (unit + n % unit)).set 0 46
theorem dd_pos (u : Nat) : 0 < (Lib.decDigits u).length := by
  unfold Lib.decDigits
  split
  · simp
  · simp
theorem dd_len (u : Nat) (h : u < 100000000000000000000) : (Lib.decDigits u).length ≤ 20 := by
  have key : ∀ k u, u < 10 ^ (k + 1) → (Lib.decDigits u).length ≤ k + 1 := by
    intro k
    induction k with
    | zero => intro u h; unfold Lib.decDigits; rw [dif_pos (by simpa using h)]; simp
    | succ k ih =>
      intro u h
      unfold Lib.decDigits
      split
      · simp
      · rw [List.length_append]
        have := ih (u / 10) (by rw [Nat.div_lt_iff_lt_mul (by decide)]; rw [Nat.pow_succ] at h; exact h)
        simp
        omega
  exact key 19 u (by simpa using h)
set_option maxHeartbeats 2000000 in
theorem decimal_any (B n unit : Nat) (l : List UInt8) (v : Value) (w : World) (hn : n < 9223372036854775808) (h1 : 1 ≤ unit) (h2 : unit ≤ 1000000) (h : Ob w B v l) (hl : l.length ≤ 900000000) (hT : PT B w) :
    Calls Tryd.prog 36 #[v, .int .i64 (n : Nat), .int .u64 (unit : Nat)] w fun e w' => ∃ v', e = .returned v' ∧ Ob w' B v' (l ++ decU unit n) ∧ Wt B w w' := by
  obtain ⟨q, hq⟩ : ∃ q, n / unit = q := ⟨_, rfl⟩
  obtain ⟨r, hr⟩ : ∃ r, n % unit = r := ⟨_, rfl⟩
  have q1 : q ≤ n := by rw [← hq]; exact Nat.div_le_self _ _
  have r1 : r < unit := by rw [← hr]; exact Nat.mod_lt _ (by omega)
  have e1 : (n : Int) / (unit : Int) = (q : Int) := by rw [← hq]; rfl
  have e2 : (n : Int) % (unit : Int) = (r : Int) := by rw [← hr]; rfl
  have e1' : (n : Int).tdiv (unit : Int) = (q : Int) := by rw [Int.tdiv_eq_ediv_of_nonneg (by omega)]; exact e1
  have e2' : (n : Int).tmod (unit : Int) = (r : Int) := by rw [Int.tmod_eq_emod_of_nonneg (by omega)]; exact e2
  have f1 : IntKind.u64.wrap (n : Int) = (n : Int) := by go_arith
  have f2 : IntKind.u64.wrap (q : Int) = (q : Int) := by go_arith
  have f3 : IntKind.u64.wrap (r : Int) = (r : Int) := by go_arith
  have f4 : IntKind.u64.wrap ((unit : Int) + (r : Int)) = (unit : Int) + (r : Int) := by go_arith
  have n0 : ¬ (n : Int) < 0 := by omega
  have u0 : (unit : Int) ≠ 0 := by omega
  have PD := hid (show decU unit n = Lib.decDigits q ++ (Lib.decDigits (unit + r)).set 0 46 from by unfold decU; rw [hq, hr])
  have d1 := dd_len q (by omega)
  have d2 := dd_len (unit + r) (by omega)
  have d3 := dd_pos q
  have d4 := dd_pos (unit + r)
  have HC := hid (appU B q l v w (by omega) h (by omega) hT)
  have TH := hid hT
  clear h hT hq hr
  go_enter Tryd.func36, Tryd.ntmps36
  go_upto_region 5 with (go_at_call 51; with_reducible refine Calls.mono HC.out ?_; rintro e w1 ⟨v1, rfl, o1, b1⟩; have O1 := hid o1; have B1 := hid b1; clear o1 b1)
  have A1 := O1.out.at_ (by rw [List.length_append]; omega)
  obtain ⟨g1, c1, rfl, _, _, _⟩ := A1
  have HC2 := hid (show Calls Tryd.prog 51 #[.slice (some ⟨g1, 0, none⟩) (l ++ Lib.decDigits q).length c1, .int .u64 ((unit : Int) + (r : Int)), .int .i64 10] w1 _ from appU B (unit + r) (l ++ Lib.decDigits q) _ w1 (by omega) O1.out (by rw [List.length_append]; omega) (TH.out.on B1.out.bl))
  generalize hL : l ++ Lib.decDigits q = L at *
  have lL : L.length ≤ 900000020 := by rw [← hL, List.length_append]; omega
  have HL := hid hL
  clear hL
  go_upto_region 7 with (go_at_call 51; with_reducible refine Calls.mono HC2.out ?_; rintro e w2 ⟨v2, rfl, o2, b2⟩; have O2 := hid o2; have B2 := hid b2; clear o2 b2)
  have A2 := O2.out.at_ (by rw [List.length_append]; omega)
  obtain ⟨g2, c2, rfl, gB, cl, fz⟩ := A2
  have z1 := fz L.length
  obtain ⟨x, hx⟩ : ∃ x, (L ++ Lib.decDigits (unit + r))[L.length]? = some x := ⟨_, List.getElem?_eq_getElem (by rw [List.length_append]; omega)⟩
  have z2 := cl L.length x hx
  have O3 := hid (O2.out.set L.length (by rw [List.length_append]; omega) 46)
  have B3 := hid (O2.out.wt (B1.out.trans B2.out) L.length (46 : UInt8))
  have lt : (L.length : Int) < ((L ++ Lib.decDigits (unit + r)).length : Int) := by rw [List.length_append]; omega
  have FE := hid (show (L ++ Lib.decDigits (unit + r)).set L.length 46 = l ++ decU unit n from by rw [List.set_append_right _ _ (Nat.le_refl _), Nat.sub_self, PD.out, ← HL.out, List.append_assoc])
  rw [FE.out] at O3
  clear fz cl hx FE
  generalize (L ++ Lib.decDigits (unit + r)).length = M at *
  generalize L.length = m at *
  go_wp2_with fail
  go_ret
  exact ⟨_, rfl, O3.out, B3.out⟩
end Go.Proofs.YtobolipjgkabhaaDoor
