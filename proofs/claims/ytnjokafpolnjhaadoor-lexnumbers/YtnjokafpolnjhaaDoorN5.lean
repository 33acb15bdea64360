/- What a written number is cut into. -/
import Derived.Test.YtnjokafpolnjhaaDoorN4
import Derived.Test.YtnjokafpolnjhaaDoorM2
namespace Go.Proofs.YtnjokafpolnjhaaDoor
set_option linter.unusedVariables false
set_option linter.unusedSimpArgs false

theorem cut_money {n : Nat} (h : n ≤ 4503599627370496) : cutF (tx (litM n)) 0 = ([(4, (litM n).length, n, 0), (0, 0, 0, (litM n).length)], none) := by
  have f1 := dec_fig (n := n / 100) (by omega)
  have f2 : fig 0 (padL 2 (dec (n % 100))) = n % 100 := by rw [padL_fig]; exact dec_fig (by omega)
  have e : 100 * fig 0 (dec (n / 100)) + fig 0 (padL 2 (dec (n % 100))) = n := by rw [f1, f2]; omega
  have m := mon_word (dec_dig (n / 100)) (padL_dig (k := 2) (dec_dig (n % 100))) (dec_len _).1 (padL_len (dec_2 (by omega))) (by rw [e]; exact h)
  rw [e] at m
  exact cut_one (c := 36) rfl (by decide) (by decide) m
theorem cut_rate {n : Nat} (h : n ≤ 1000000000000) : cutF (tx (litR n)) 0 = ([(5, (litR n).length, n, 0), (0, 0, 0, (litR n).length)], none) := by
  have f1 := dec_fig (n := n / 10000) (by omega)
  have f2 : fig 0 (padL 4 (dec (n % 10000))) = n % 10000 := by rw [padL_fig]; exact dec_fig (by omega)
  have e : 10000 * fig 0 (dec (n / 10000)) + fig 0 (padL 4 (dec (n % 10000))) = n := by rw [f1, f2]; omega
  have m := num_rate (dec_dig (n / 10000)) (padL_dig (k := 4) (dec_dig (n % 10000))) (padL_len (dec_4 (by omega))) (by rw [e]; exact h)
  rw [e] at m
  obtain ⟨c, r, hc, hd⟩ := dec_head (n / 10000)
  obtain ⟨h1, h2, -⟩ := dig_plain hd
  have el : litR n = c :: (r ++ 46 :: (padL 4 (dec (n % 10000)) ++ [37])) := by unfold litR; rw [hc]; rfl
  refine cut_one el h1 h2 ?_
  have : wd (litR n) = numW (litR n) := by rw [el]; exact wd_dig hd
  rw [this]
  exact m
theorem db {x : Int} (h0 : 0 ≤ x) (h1 : x ≤ 9) : ((UInt8.ofNat (48 + x).toNat).toNat : Int) = 48 + x := by
  rw [UInt8.toNat_ofNat']
  omega
theorem db_dig {x : Int} (h0 : 0 ≤ x) (h1 : x ≤ 9) : isDig (UInt8.ofNat (48 + x).toNat) = true ∧ dig (UInt8.ofNat (48 + x).toNat) = x := by
  have := db h0 h1
  constructor
  · unfold isDig; rw [this]; simp; omega
  · unfold dig; omega
def litD (y m d : Int) : List UInt8 := (dtext y m d).map fun n => UInt8.ofNat n.toNat
theorem litD_tx (y m d : Int) : strOfNums (dtext y m d) = tx (litD y m d) := rfl
theorem litD_len (y m d : Int) : (litD y m d).length = 10 := rfl
theorem cut_day {n : Nat} {y m d : Int} (h : IsDate (n : Nat) y m d) : cutF (tx (litD y m d)) 0 = ([(6, 10, n, 0), (0, 0, 0, 10)], none) := by
  have y0 := h.y0
  have y1 := h.y1
  have hB := h.dateB
  have hN := h.dayN
  have hd := (dateB_iff y m d).1 hB
  have mm := days_in (y := y) (m := m) (by omega)
  have d31 := days_le y m
  obtain ⟨a0, v0⟩ := db_dig (x := y / 10 / 10 / 10 % 10) (by omega) (by omega)
  obtain ⟨a1, v1⟩ := db_dig (x := y / 10 / 10 % 10) (by omega) (by omega)
  obtain ⟨a2, v2⟩ := db_dig (x := y / 10 % 10) (by omega) (by omega)
  obtain ⟨a3, v3⟩ := db_dig (x := y % 10) (by omega) (by omega)
  obtain ⟨a5, v5⟩ := db_dig (x := m / 10 % 10) (by omega) (by omega)
  obtain ⟨a6, v6⟩ := db_dig (x := m % 10) (by omega) (by omega)
  obtain ⟨a8, v8⟩ := db_dig (x := d / 10 % 10) (by omega) (by omega)
  obtain ⟨a9, v9⟩ := db_dig (x := d % 10) (by omega) (by omega)
  have el : litD y m d = [UInt8.ofNat (48 + y / 10 / 10 / 10 % 10).toNat, UInt8.ofNat (48 + y / 10 / 10 % 10).toNat, UInt8.ofNat (48 + y / 10 % 10).toNat, UInt8.ofNat (48 + y % 10).toNat, 45, UInt8.ofNat (48 + m / 10 % 10).toNat, UInt8.ofNat (48 + m % 10).toNat, 45, UInt8.ofNat (48 + d / 10 % 10).toNat, UInt8.ofNat (48 + d % 10).toNat] := rfl
  generalize UInt8.ofNat (48 + y / 10 / 10 / 10 % 10).toNat = c0 at *
  generalize UInt8.ofNat (48 + y / 10 / 10 % 10).toNat = c1 at *
  generalize UInt8.ofNat (48 + y / 10 % 10).toNat = c2 at *
  generalize UInt8.ofNat (48 + y % 10).toNat = c3 at *
  generalize UInt8.ofNat (48 + m / 10 % 10).toNat = c5 at *
  generalize UInt8.ofNat (48 + m % 10).toNat = c6 at *
  generalize UInt8.ofNat (48 + d / 10 % 10).toNat = c8 at *
  generalize UInt8.ofNat (48 + d % 10).toNat = c9 at *
  have fit : fitB c0 c1 c2 c3 45 c5 c6 45 c8 c9 = true := by
    unfold fitB
    rw [a0, a1, a2, a3, a5, a6, a8, a9]
    decide
  have g1 : dg4 c0 c1 c2 c3 = y := by unfold dg4; rw [v0, v1, v2, v3]; omega
  have g2 : dg2 c5 c6 = m := by unfold dg2; rw [v5, v6]; omega
  have g3 : dg2 c8 c9 = d := by unfold dg2; rw [v8, v9]; omega
  have hw : dayW (litD y m d) = some n := by
    rw [el]
    show (if runD [] ≠ 0 then none else if rdB c0 c1 c2 c3 45 c5 c6 45 c8 c9 then some (rdN c0 c1 c2 c3 45 c5 c6 45 c8 c9).toNat else none) = some n
    rw [(rd_yes fit).1, (rd_yes fit).2, g1, g2, g3, hB, hN]
    simp [runD]
  obtain ⟨h1, h2, -⟩ := dig_plain (c := c0) a0
  refine cut_one (l := litD y m d) el h1 h2 ?_
  have : wd (litD y m d) = numW (litD y m d) := by rw [el]; exact wd_dig a0
  rw [this]
  unfold numW
  rw [hw]
  rfl
end Go.Proofs.YtnjokafpolnjhaaDoor
