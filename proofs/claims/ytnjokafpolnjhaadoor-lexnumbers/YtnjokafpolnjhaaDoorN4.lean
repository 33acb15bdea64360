/- The walks over publicanref9.digitsOf and Lit. -/
import Derived.Test.YtnjokafpolnjhaaDoorN3
namespace Go.Proofs.YtnjokafpolnjhaaDoor
open Go.RowKit
set_option linter.unusedVariables false
set_option linter.unusedSimpArgs false

theorem dec_2 {n : Nat} (h : n < 100) : (dec n).length ≤ 2 := by
  rcases decG_small 20 n 2 h (by omega) with x | x
  · exact x
  · cases x
theorem dec_4 {n : Nat} (h : n < 10000) : (dec n).length ≤ 4 := by
  rcases decG_small 20 n 4 h (by omega) with x | x
  · exact x
  · cases x
set_option maxHeartbeats 2000000 in
theorem digitsOf_any (n k : Nat) (w : World) (hn : n ≤ 1000000) (hl : (dec n).length ≤ k) (hk : k ≤ 10) :
    Calls Tryd.prog 26 #[.int .i64 (n : Nat), .int .i64 (k : Nat)] w fun e w' => e = .returned (.string (tx (padL k (dec n)))) ∧ Below w.heap.size w w' := by
  have TH := hid fun w => text_any n w (by omega)
  have PE := hid (show padL k (dec n) = List.replicate (k - (dec n).length) 48 ++ dec n from rfl)
  go_enter Tryd.func26, Tryd.ntmps26
  go_wp2_with (go_at_call 25; refine Calls.mono (TH.out _) ?_; rintro e w1 ⟨rfl, b1⟩)
  go_loopg [5] (k + 1 - (dec n).length) (fun g sv wr => ∃ (j : Nat) (t : ByteArray), j + (dec n).length ≤ k ∧ g = k + 1 - (j + (dec n).length) ∧ sv = .string t ∧ t.size = j + (dec n).length ∧ w1 = wr ∧ Hid (t = tx (List.replicate j 48 ++ dec n)))
  case atStart => exact ⟨0, _, by omega, by rw [Nat.zero_add], rfl, by rw [tx_sz, Nat.zero_add], rfl, rfl⟩
  case round =>
    obtain ⟨j, t, hj, rfl, rfl, hz, rfl, Ht⟩ := hrel
    generalize hL : (dec n).length = L at *
    by_cases q : j + L < k
    · have q' : (t.size : Int) < (k : Int) := by omega
      have NT := hid (show (⟨#[48]⟩ : ByteArray) ++ t = tx (List.replicate (j + 1) 48 ++ dec n) from by
        rw [Ht.out, show (⟨#[48]⟩ : ByteArray) = tx [48] from rfl, tx_cat]
        rfl)
      have NZ := hid (show ((⟨#[48]⟩ : ByteArray) ++ t).size = j + 1 + L from by rw [NT.out, tx_sz, List.length_append, List.length_replicate, hL])
      have z1 : t.size ≤ 10 := by omega
      clear hz
      go_wp2_with fail
      go_roundg (k + 1 - (j + 1 + L))
      case measure => omega
      case rel => exact ⟨j + 1, _, by omega, rfl, rfl, NZ.out, rfl, NT⟩
    · have q' : ¬ (t.size : Int) < (k : Int) := by omega
      have E := hid (show tx (padL k (dec n)) = t from by rw [PE.out, Ht.out, show k - L = j by omega])
      clear hz
      go_wp2_with fail
      go_ret
      exact ⟨by rw [E.out]; rfl, b1⟩

def litM (n : Nat) : List UInt8 := 36 :: (dec (n / 100) ++ 46 :: padL 2 (dec (n % 100)))
def litR (n : Nat) : List UInt8 := dec (n / 10000) ++ 46 :: (padL 4 (dec (n % 10000)) ++ [37])
theorem lit_2 (n : Nat) (w : World) (hn : n ≤ 4503599627370496) : Calls Tryd.prog 11 #[.int .i64 2, .int .i64 (n : Nat)] w fun e w' => e = .returned (.string (tx (dec n))) ∧ Below w.heap.size w w' := by
  have TH := hid fun w => text_any n w (by omega)
  have h : ¬ (n : Int) < 0 := by omega
  go_enter Tryd.func11, Tryd.ntmps11
  go_wp2_with (go_at_call 25; refine Calls.mono (TH.out _) ?_; rintro e w1 ⟨rfl, b1⟩)
  go_ret
  exact ⟨rfl, b1⟩
set_option maxHeartbeats 2000000 in
theorem lit_3 (n : Nat) (w : World) (hn : n ≤ 4503599627370496) : Calls Tryd.prog 11 #[.int .i64 3, .int .i64 (n : Nat)] w fun e w' => e = .returned (.string (tx (litM n))) ∧ Below w.heap.size w w' := by
  have TH := hid fun w => text_any (n / 100) w (by omega)
  have DH := hid (show ∀ w, Calls Tryd.prog 26 #[.int .i64 ((n % 100 : Nat) : Int), .int .i64 2] w fun e w' => e = .returned (.string (tx (padL 2 (dec (n % 100))))) ∧ Below w.heap.size w w' from fun w => digitsOf_any (n % 100) 2 w (by omega) (dec_2 (by omega)) (by omega))
  have E := hid (show tx (litM n) = ((⟨#[36]⟩ ++ tx (dec (n / 100))) ++ ⟨#[46]⟩) ++ tx (padL 2 (dec (n % 100))) from by
    rw [show (⟨#[36]⟩ : ByteArray) = tx [36] from rfl, show (⟨#[46]⟩ : ByteArray) = tx [46] from rfl, tx_cat, tx_cat, tx_cat]
    unfold litM
    simp)
  have z1 : (tx (dec (n / 100))).size ≤ 21 := by rw [tx_sz]; exact (dec_len _).2
  have z2 : (tx (padL 2 (dec (n % 100)))).size ≤ 2 := by rw [tx_sz, padL_len (dec_2 (by omega))]; exact Nat.le_refl _
  have h : ¬ (n : Int) < 0 := by omega
  have e1 : (n : Int) / 100 = ((n / 100 : Nat) : Int) := by omega
  have e2 : (n : Int) % 100 = ((n % 100 : Nat) : Int) := by omega
  obtain ⟨q, hq⟩ : ∃ q, q = n / 100 := ⟨_, rfl⟩
  obtain ⟨r, hr⟩ : ∃ r, r = n % 100 := ⟨_, rfl⟩
  have q1 : q ≤ 45035996273704 := by omega
  have r1 : r ≤ 99 := by omega
  rw [← hq] at TH E z1 e1
  rw [← hr] at DH E z2 e2
  have f2 : (n : Int).tmod 100 = (r : Int) := by rw [Int.tmod_eq_emod_of_nonneg (by omega)]; exact e2
  clear hq hr
  generalize tx (litM n) = TT at *
  generalize tx (dec q) = T1 at *
  generalize tx (padL 2 (dec r)) = T2 at *
  go_enter Tryd.func11, Tryd.ntmps11
  go_wp2_with (first | (go_at_call 25; refine Calls.mono (TH.out _) ?_; rintro e w1 ⟨rfl, b1⟩) | (go_at_call 26; refine Calls.mono (DH.out _) ?_; rintro e w2 ⟨rfl, b2⟩))
  go_ret
  exact ⟨by rw [E.out]; rfl, nextB b1 b2⟩
set_option maxHeartbeats 2000000 in
theorem lit_4 (n : Nat) (w : World) (hn : n ≤ 1000000000000) : Calls Tryd.prog 11 #[.int .i64 4, .int .i64 (n : Nat)] w fun e w' => e = .returned (.string (tx (litR n))) ∧ Below w.heap.size w w' := by
  have TH := hid fun w => text_any (n / 10000) w (by omega)
  have DH := hid (show ∀ w, Calls Tryd.prog 26 #[.int .i64 ((n % 10000 : Nat) : Int), .int .i64 4] w fun e w' => e = .returned (.string (tx (padL 4 (dec (n % 10000))))) ∧ Below w.heap.size w w' from fun w => digitsOf_any (n % 10000) 4 w (by omega) (dec_4 (by omega)) (by omega))
  have E := hid (show tx (litR n) = ((tx (dec (n / 10000)) ++ ⟨#[46]⟩) ++ tx (padL 4 (dec (n % 10000)))) ++ ⟨#[37]⟩ from by
    rw [show (⟨#[37]⟩ : ByteArray) = tx [37] from rfl, show (⟨#[46]⟩ : ByteArray) = tx [46] from rfl, tx_cat, tx_cat, tx_cat]
    unfold litR
    simp)
  have z1 : (tx (dec (n / 10000))).size ≤ 21 := by rw [tx_sz]; exact (dec_len _).2
  have z2 : (tx (padL 4 (dec (n % 10000)))).size ≤ 4 := by rw [tx_sz, padL_len (dec_4 (by omega))]; exact Nat.le_refl _
  have h : ¬ (n : Int) < 0 := by omega
  have e1 : (n : Int) / 10000 = ((n / 10000 : Nat) : Int) := by omega
  have e2 : (n : Int) % 10000 = ((n % 10000 : Nat) : Int) := by omega
  obtain ⟨q, hq⟩ : ∃ q, q = n / 10000 := ⟨_, rfl⟩
  obtain ⟨r, hr⟩ : ∃ r, r = n % 10000 := ⟨_, rfl⟩
  have q1 : q ≤ 100000000 := by omega
  have r1 : r ≤ 9999 := by omega
  rw [← hq] at TH E z1 e1
  rw [← hr] at DH E z2 e2
  have f2 : (n : Int).tmod 10000 = (r : Int) := by rw [Int.tmod_eq_emod_of_nonneg (by omega)]; exact e2
  clear hq hr
  generalize tx (litR n) = TT at *
  generalize tx (dec q) = T1 at *
  generalize tx (padL 4 (dec r)) = T2 at *
  go_enter Tryd.func11, Tryd.ntmps11
  go_wp2_with (first | (go_at_call 25; refine Calls.mono (TH.out _) ?_; rintro e w1 ⟨rfl, b1⟩) | (go_at_call 26; refine Calls.mono (DH.out _) ?_; rintro e w2 ⟨rfl, b2⟩))
  go_ret
  exact ⟨by rw [E.out]; rfl, nextB b1 b2⟩
theorem lit_5 {n : Nat} {y m d : Int} (w : World) (h : IsDate (n : Nat) y m d) : Calls Tryd.prog 11 #[.int .i64 5, .int .i64 (n : Nat)] w fun e w' => e = .returned (.string (strOfNums (dtext y m d))) ∧ Below w.heap.size w w' := by
  have TH := hid fun w => rtext_yes (n := (n : Nat)) w h
  have b := h.bd
  have h0 : ¬ (n : Int) < 0 := by omega
  clear h b
  go_enter Tryd.func11, Tryd.ntmps11
  go_wp2_with (go_at_call 27; refine Calls.mono (TH.out _) ?_; rintro e w1 ⟨rfl, b1⟩)
  go_ret
  exact ⟨rfl, b1⟩
end Go.Proofs.YtnjokafpolnjhaaDoor
