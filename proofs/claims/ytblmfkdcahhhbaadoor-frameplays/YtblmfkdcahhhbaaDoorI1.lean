/- The walk over package frame: Add, all of it; slices.BinarySearch of ints. -/
import Derived.Test.YtblmfkdcahhhbaaDoorH9
namespace Go.Proofs.YtblmfkdcahhhbaaDoor
open Go.RowKit
set_option linter.unusedVariables false
set_option linter.unusedSimpArgs false

theorem Add_any (w : World) (pa p q N : Nat) (s : St) (ar : Ar) (v : Value) (h : Am w pa p ar v) (d : Dk w p q N s) (ok : ArOk N ar) (T : Tab w) (kd : Int) (hk : 0 ≤ kd ∧ kd < 256) (a : Option Addr) (m c : Nat) (bs : List Int) (y : By w a m c bs) (hw : s.writes ≤ 900000) (sp : pa ≠ p ∧ pa ≠ q) (sv : ∀ g, v.ownBlock = some g → g ≠ p ∧ g ≠ q) :
    Calls Tryd.prog 10 #[.pointer (some ⟨pa, 0, none⟩), .int .u8 kd, .slice a m c] w fun e w' => AddP w pa p q N v (addG N s ar kd bs) e w' := by
  rcases Nat.lt_or_ge 1000 m with h1 | h1
  · exact Add_big w pa p q N s ar v h d kd a m c bs y h1
  rcases Decidable.em (s.lives = ar.lives) with h2 | h2
  · rcases Nat.lt_or_ge (ar.count - used ar.fs) (fsize m) with h3 | h3
    · exact Add_full w pa p q N s ar v h d ok kd a m c bs y h1 h2 h3
    · exact Add_good w pa p q N s ar v h d ok T kd hk a m c bs y h1 h2 h3 hw sp sv
  · exact Add_over w pa p q N s ar v h d kd a m c bs y h1 h2

theorem isNaN_any (x : Int) (w : World) : Calls Tryd.prog 56 #[.int .i64 x] w fun e w' => e = .returned (.bool false) ∧ w = w' := by
  go_enter Tryd.func56, Tryd.ntmps56
  go_wp2
  go_ret
  exact ⟨by simp, rfl⟩
theorem cmpIsNaN_any (x : Int) (w : World) : Calls Tryd.prog 64 #[.int .i64 x] w fun e w' => e = .returned (.bool false) ∧ w = w' := by
  go_enter Tryd.func64, Tryd.ntmps64
  go_wp2
  go_ret
  exact ⟨by simp, rfl⟩
set_option maxHeartbeats 2000000 in
theorem Less_any (x y : Int) (w : World) : Calls Tryd.prog 55 #[.int .i64 x, .int .i64 y] w fun e w' => e = .returned (.bool (decide (x < y))) ∧ w = w' := by
  have NN : Hid _ := fun z => cmpIsNaN_any z w
  go_enter Tryd.func55, Tryd.ntmps55
  go_wp2_with (go_at_call 64; refine Calls.mono (NN.out _) ?_; rintro e w1 ⟨rfl, rfl⟩)
  go_ret
  exact ⟨by simp, rfl⟩

/-- A place among rising ones. -/
structure BsP (n : Nat) (P : Nat → Int) (x : Int) (e : Ending) : Prop where
  k : ∃ (i : Nat) (b : Bool), e = .returned (.tuple #[.int .i64 (i : Nat), .bool b]) ∧ (b = true → i < n ∧ P i = x) ∧ (b = false → ∀ j, j < n → P j ≠ x)
set_option maxRecDepth 100000 in
set_option maxHeartbeats 4000000 in
theorem BinarySearch_any (a : Option Addr) (n cap : Nat) (P : Nat → Int) (x : Int) (w : World) (hn : n ≤ 100000) (g : Nat) (ha : 0 < n → a = some ⟨g, 0, none⟩) (hc : ∀ i, i < n → w.cell? ⟨g, i, none⟩ = some (.int .i64 (P i))) (hm : ∀ i j, i < j → j < n → P i < P j) :
    Calls Tryd.prog 37 #[.slice a n cap, .int .i64 x] w fun e w' => BsP n P x e ∧ w = w' := by
  have LS : Hid _ := fun y => Less_any y x w
  have NN : Hid _ := fun z => isNaN_any z w
  have HA : Hid _ := ha
  have HC : Hid _ := hc
  have HM : Hid _ := hm
  have hn' : (n : Int) ≤ 100000 := by omega
  clear ha hc hm
  go_enter Tryd.func37, Tryd.ntmps37
  go_wp2_with fail
  go_loopg [7, 8] n (fun gg iv jv wr => ∃ (i j : Nat), i ≤ j ∧ j ≤ n ∧ gg = j - i ∧ iv = .int .i64 (i : Nat) ∧ jv = .int .i64 (j : Nat) ∧ wr = w ∧ Hid (∀ t, t < i → P t < x) ∧ Hid (∀ t, j ≤ t → t < n → x ≤ P t))
  case atStart => exact ⟨0, n, Nat.zero_le _, Nat.le_refl _, rfl, rfl, rfl, rfl, fun t ht => by omega, fun t h1 h2 => by omega⟩
  case round =>
    obtain ⟨i, j, hij, hjn, rfl, rfl, rfl, rfl, hlo, hhi⟩ := hrel
    by_cases q1 : i < j
    · have q' : (i : Int) < (j : Int) := by omega
      have j' : (j : Int) ≤ 100000 := by omega
      obtain ⟨h, hh⟩ : ∃ h : Nat, h = (i + j) / 2 := ⟨_, rfl⟩
      have s1 : ((i : Int) + (j : Int)) / 2 = (h : Int) := by omega
      have h1 : h < n := by omega
      have h2 : i ≤ h ∧ h < j := by omega
      have h' : (h : Int) < (n : Int) := by omega
      obtain rfl := HA.out (by omega)
      have e1 := HC.out h h1
      clear hh
      by_cases q2 : P h < x
      · have LL : Hid _ := LS.out (P h)
        rw [decide_eq_true q2] at LL
        go_wp2_with (go_at_call 55; refine Calls.mono LL.out ?_; rintro e w1 ⟨rfl, rfl⟩)
        go_roundg (j - (h + 1))
        case rel =>
          refine ⟨h + 1, j, by omega, hjn, rfl, by congr 1, rfl, rfl, fun t ht => ?_, hhi.out⟩
          rcases Nat.lt_or_ge t h with c | c
          · have := HM.out t h c h1; omega
          · obtain rfl : t = h := by omega
            exact q2
        case measure => omega
      · have LL : Hid _ := LS.out (P h)
        rw [decide_eq_false q2] at LL
        go_wp2_with (go_at_call 55; refine Calls.mono LL.out ?_; rintro e w1 ⟨rfl, rfl⟩)
        go_roundg (h - i)
        case rel =>
          refine ⟨i, h, by omega, by omega, rfl, rfl, rfl, rfl, hlo.out, fun t h3 h4 => ?_⟩
          rcases Nat.lt_or_ge h t with c | c
          · have := HM.out h t c h4; omega
          · obtain rfl : t = h := by omega
            omega
        case measure => omega
    · obtain rfl : i = j := by omega
      by_cases q2 : i < n
      · have q' : (i : Int) < (n : Int) := by omega
        obtain rfl := HA.out (by omega)
        have e1 := HC.out i q2
        by_cases q3 : P i = x
        · subst q3
          go_wp2_with fail
          refine bodyPost_ret (v := .tuple #[.int .i64 (i : Nat), .bool true]) (by simp [results, Tryd.results37, go_sem]) rfl ?_
          exact ⟨⟨i, true, rfl, fun _ => ⟨q2, rfl⟩, (fun h => nomatch h)⟩, rfl⟩
        · have q4 : (P i == x) = false := by simpa using q3
          go_wp2_with (go_at_call 56; refine Calls.mono (NN.out _) ?_; rintro e w1 ⟨rfl, rfl⟩)
          refine bodyPost_ret (v := .tuple #[.int .i64 (i : Nat), .bool false]) (by simp [results, Tryd.results37, go_sem]) rfl ?_
          refine ⟨⟨i, false, rfl, (fun h => nomatch h), fun _ t ht => ?_⟩, rfl⟩
          rcases Nat.lt_trichotomy t i with c | c | c
          · have := hlo.out t c; omega
          · subst c; exact q3
          · have := hhi.out i (Nat.le_refl _) q2; have := HM.out i t c ht; omega
      · go_wp2_with fail
        refine bodyPost_ret (v := .tuple #[.int .i64 (i : Nat), .bool false]) (by simp [results, Tryd.results37, go_sem]) rfl ?_
        refine ⟨⟨i, false, rfl, (fun h => nomatch h), fun _ t ht => ?_⟩, rfl⟩
        have := hlo.out t (by omega); omega

end Go.Proofs.YtblmfkdcahhhbaaDoor
