/- The walks over package lex, on: money. -/
import Derived.Test.YtobolipjgkabhaaDoorL4
namespace Go.Proofs.YtobolipjgkabhaaDoor
open Go.RowKit
set_option linter.unusedVariables false
set_option linter.unusedSimpArgs false

theorem mon_k (s : ByteArray) (a : Nat) : dEnd s (a + 1) = a + 1 + monK (tl s a) := by
  unfold dEnd monK
  rw [tl_drop]
theorem mon_d (s : ByteArray) (a : Nat) : (tl s a).drop (1 + monK (tl s a)) = tl s (dEnd s (a + 1)) := by
  rw [tl_drop, mon_k]
  congr 1
  omega
theorem monW_0 {s : ByteArray} {a : Nat} (h : dEnd s (a + 1) = a + 1) : monW (tl s a) = none := by
  rw [mon_k] at h
  unfold monW
  rw [if_pos (by omega)]
def monC (s : ByteArray) (K D : Nat) : ByteArray := if D = K + 3 then s.extract (K + 1) D else ⟨#[48, 48]⟩
theorem dot_3 (s : ByteArray) (K : Nat) : dotW (tl s K) = 3 ↔ dotE s K = K + 3 := by unfold dotE; omega
theorem mon_v (s : ByteArray) (a : Nat) : figN (figN 0 (s.extract (a + 1) (dEnd s (a + 1)))) (monC s (dEnd s (a + 1)) (dotE s (dEnd s (a + 1)))) = sat (monV (tl s a)) := by
  unfold monV
  rw [mon_d, figN_ext, tl_drop]
  have e : dEnd s (a + 1) - (a + 1) = monK (tl s a) := by rw [mon_k]; omega
  rw [e]
  generalize dEnd s (a + 1) = K
  unfold monC
  by_cases h : dotE s K = K + 3
  · rw [if_pos ((dot_3 s K).2 h), if_pos h, figN_ext, fig_sat, h, show K + 3 - (K + 1) = 2 by omega, List.drop_take, tl_drop]
  · rw [if_neg (fun x => h ((dot_3 s K).1 x)), if_neg h]
    show sat (fig (sat _) [48, 48]) = _
    rw [fig_sat]
theorem mon_len (s : ByteArray) (a : Nat) : a + (1 + monK (tl s a) + monP (tl s a)) = if dotE s (dEnd s (a + 1)) = dEnd s (a + 1) + 3 then dotE s (dEnd s (a + 1)) else dEnd s (a + 1) := by
  unfold monP
  rw [mon_d]
  by_cases h : dotE s (dEnd s (a + 1)) = dEnd s (a + 1) + 3
  · rw [if_pos ((dot_3 _ _).2 h), if_pos h, h, mon_k]; omega
  · rw [if_neg (fun x => h ((dot_3 _ _).1 x)), if_neg h, mon_k]; omega
theorem monC_dig {s : ByteArray} {K : Nat} (hK : K ≤ s.size) : AllD (monC s K (dotE s K)) := by
  unfold monC
  by_cases h : dotE s K = K + 3
  · rw [if_pos h]
    by_cases q : K < s.size
    · by_cases d : (bt s K).toNat = 46
      · have e := dotE_yes q d
        by_cases z : dEnd s (K + 1) = K + 1
        · rw [if_pos z] at e; omega
        · rw [if_neg z] at e
          rw [e]
          exact allD_ext (Nat.le_refl _)
      · have := dotE_no q d; omega
    · have := dotE_nil (s := s) (a := K) (by omega); omega
  · rw [if_neg h]
    intro c hc
    simp at hc
    subst hc
    decide

set_option maxHeartbeats 2000000 in
theorem money_any (s : ByteArray) (a : Nat) (w : World) (ha : a < s.size) (hs : s.size < 9223372036854775807) :
    Calls Tryd.prog 23 #[.string s, .int .i64 (a : Nat)] w fun e w' => LgP s a (monW (tl s a)) e ∧ Below w.heap.size w w' := by
  have K := fun w => digits_any s (a + 1) w (by omega) hs
  rw [Int.natCast_add] at K
  have KH : Hid _ := K
  clear K
  have M0 : Hid _ := fun h => monW_0 (s := s) (a := a) h
  have MV : Hid _ := mon_v s a
  have ML : Hid _ := mon_len s a
  have k0 : a + 1 ≤ dEnd s (a + 1) := by unfold dEnd; omega
  have k1 : dEnd s (a + 1) ≤ s.size := dEnd_le ha
  have MK : Hid _ := mon_k s a
  have F1 : Hid _ := fun w => figure_any (s.extract (a + 1) (dEnd s (a + 1))) 0 w (by omega) (allD_ext (Nat.le_refl _)) (by simp [ByteArray.size_extract]; omega)
  have D1 : Hid _ := fun w => dotted_any s (dEnd s (a + 1)) w k1 hs
  obtain ⟨d0, d1⟩ := dotE_le k1
  have DC : Hid _ := monC_dig k1
  have v0 := figN_le 0 (s.extract (a + 1) (dEnd s (a + 1)))
  generalize figN 0 (s.extract (a + 1) (dEnd s (a + 1))) = V0 at *
  generalize dotE s (dEnd s (a + 1)) = D at *
  generalize dEnd s (a + 1) = K at *
  have F2 : Hid _ := fun w => figure_any (monC s K D) V0 w v0 DC.out (by unfold monC; split; · simp [ByteArray.size_extract]; omega
                                                                         · decide)
  by_cases z : K = a + 1
  · subst z
    have LG := M0.out rfl
    have LH : Hid (monW (tl s a) = none) := LG
    rw [Int.natCast_add] at KH
    clear LG M0 MV ML F1 F2 D1 DC MK
    go_enter Tryd.func23, Tryd.ntmps23
    go_upto_region 1 with fail
    have Q0 := X4.new w 41 (.int .i64 0) (.string ⟨#[]⟩) (.int .i64 0) (.int .i64 0)
    generalize (w.alloc _) = w0 at *
    have QH : Hid _ := Q0
    clear Q0
    go_upto_region 3 with (go_at_call 25; refine Calls.mono (KH.out _) ?_; rintro e w5 ⟨rfl, hb5⟩)
    have QF : Hid _ := QH.out.next hb5
    obtain ⟨c0, c1, c2, c3, cf, _, _⟩ := QF.out
    go_wp2
    have X : Hid _ := QF.out.set (.int .i64 0) (.string ⟨#[]⟩) (.int .i64 0) (.int .i64 0)
    clear QF c0 c1 c2 c3 cf
    generalize ((((w5.setCell ⟨w.heap.size, 0, none⟩ (.int .i64 0)).setCell ⟨w.heap.size, 1, none⟩ (.string ⟨#[]⟩)).setCell ⟨w.heap.size, 2, none⟩ (.int .i64 0)).setCell ⟨w.heap.size, 3, none⟩ (.int .i64 0)) = W8 at *
    obtain ⟨t0, t1, t2, t3, _, tb, _⟩ := X.out
    exact bodyPost_ret (v := .tuple #[.agg #[.int .i64 0, .string ⟨#[]⟩, .int .i64 0, .int .i64 0], .bool false]) (by simp [results, Tryd.results23, go_sem, t0, t1, t2, t3]) rfl ⟨by rw [LH.out]; exact ⟨_, _, _, _, rfl⟩, tb⟩
  · have LG : Hid (∀ E, (E = if D = K + 3 then D else K) → LgP s a (monW (tl s a)) (.returned (.tuple #[.agg #[.int .i64 4, .string (s.extract a E), .int .i64 (figN V0 (monC s K D) : Nat), .int .i64 (a : Nat)], .bool (decide (((figN V0 (monC s K D) : Nat) : Int) ≤ 4503599627370496))]))) := by
      intro E hE
      have q := figN_small MV.out (m := 4503599627370496) (Nat.le_refl _)
      unfold monW
      rw [if_neg (by have := MK.out; omega)]
      by_cases y : monV (tl s a) ≤ 4503599627370496
      · rw [if_pos y]
        have y1 := q.2 y
        have y2 : (decide (((figN V0 (monC s K D) : Nat) : Int) ≤ 4503599627370496)) = true := decide_eq_true (by omega)
        rw [y2, y1]
        unfold LgP
        dsimp only
        rw [ML.out, ← hE]
        rfl
      · rw [if_neg y]
        have y2 : (decide (((figN V0 (monC s K D) : Nat) : Int) ≤ 4503599627370496)) = false := decide_eq_false (by have := fun h => y (q.1.1 h); omega)
        rw [y2]
        exact ⟨_, _, _, _, rfl⟩
    have z' : ((K : Int) == (a : Int) + 1) = false := beqf (by omega)
    clear M0 MV ML MK DC
    have v1 := figN_le V0 (monC s K D)
    generalize figN V0 (monC s K D) = V at *
    by_cases y : D = K + 3
    · have y' : (D : Int) - (K : Int) = 3 := by omega
      have LG : Hid _ := LG.out D (by rw [if_pos y])
      have hC : monC s K D = s.extract (K + 1) D := if_pos y
      rw [hC] at F2
      clear hC y
      go_enter Tryd.func23, Tryd.ntmps23
      go_upto_region 1 with fail
      have Q0 := X4.new w 41 (.int .i64 0) (.string ⟨#[]⟩) (.int .i64 0) (.int .i64 0)
      generalize (w.alloc _) = w0 at *
      have QH : Hid _ := Q0
      clear Q0

      go_upto_region 9 with (first | (go_at_call 25; refine Calls.mono (KH.out _) ?_; rintro e w5 ⟨rfl, hb5⟩) | (go_at_call 27; with_reducible refine Calls.mono (F1.out _) ?_; rintro e w6 ⟨rfl, hb6⟩) | (go_at_call 42; with_reducible refine Calls.mono (D1.out _) ?_; rintro e w7 ⟨rfl, hb7⟩) | (go_at_call 27; with_reducible refine Calls.mono (F2.out _) ?_; rintro e w8 ⟨rfl, hb8⟩))
      have QF : Hid _ := (((QH.out.next hb5).next hb6).next hb7).next hb8
      obtain ⟨c0, c1, c2, c3, cf, _, _⟩ := QF.out
      go_wp2
      have X : Hid _ := QF.out.set (.int .i64 4) (.string (s.extract a D)) (.int .i64 (V : Nat)) (.int .i64 (a : Nat))
      clear QF c0 c1 c2 c3 cf
      generalize ((((w8.setCell ⟨w.heap.size, 0, none⟩ (.int .i64 4)).setCell ⟨w.heap.size, 1, none⟩ (.string (s.extract a D))).setCell ⟨w.heap.size, 2, none⟩ (.int .i64 (V : Nat))).setCell ⟨w.heap.size, 3, none⟩ (.int .i64 (a : Nat))) = W8 at *
      obtain ⟨t0, t1, t2, t3, _, tb, _⟩ := X.out
      exact bodyPost_ret (v := .tuple #[.agg #[.int .i64 4, .string (s.extract a D), .int .i64 (V : Nat), .int .i64 (a : Nat)], .bool (decide ((V : Int) ≤ 4503599627370496))]) (by simp [results, Tryd.results23, go_sem, t0, t1, t2, t3]) rfl ⟨LG.out, tb⟩

    · have y' : ((D : Int) - (K : Int) == 3) = false := beqf (by omega)
      have LG : Hid _ := LG.out K (by rw [if_neg y])
      have hC : monC s K D = ⟨#[48, 48]⟩ := if_neg y
      rw [hC] at F2
      clear hC y
      go_enter Tryd.func23, Tryd.ntmps23
      go_upto_region 1 with fail
      have Q0 := X4.new w 41 (.int .i64 0) (.string ⟨#[]⟩) (.int .i64 0) (.int .i64 0)
      generalize (w.alloc _) = w0 at *
      have QH : Hid _ := Q0
      clear Q0

      go_upto_region 9 with (first | (go_at_call 25; refine Calls.mono (KH.out _) ?_; rintro e w5 ⟨rfl, hb5⟩) | (go_at_call 27; with_reducible refine Calls.mono (F1.out _) ?_; rintro e w6 ⟨rfl, hb6⟩) | (go_at_call 42; with_reducible refine Calls.mono (D1.out _) ?_; rintro e w7 ⟨rfl, hb7⟩) | (go_at_call 27; with_reducible refine Calls.mono (F2.out _) ?_; rintro e w8 ⟨rfl, hb8⟩))
      have QF : Hid _ := (((QH.out.next hb5).next hb6).next hb7).next hb8
      obtain ⟨c0, c1, c2, c3, cf, _, _⟩ := QF.out
      go_wp2
      have X : Hid _ := QF.out.set (.int .i64 4) (.string (s.extract a K)) (.int .i64 (V : Nat)) (.int .i64 (a : Nat))
      clear QF c0 c1 c2 c3 cf
      generalize ((((w8.setCell ⟨w.heap.size, 0, none⟩ (.int .i64 4)).setCell ⟨w.heap.size, 1, none⟩ (.string (s.extract a K))).setCell ⟨w.heap.size, 2, none⟩ (.int .i64 (V : Nat))).setCell ⟨w.heap.size, 3, none⟩ (.int .i64 (a : Nat))) = W8 at *
      obtain ⟨t0, t1, t2, t3, _, tb, _⟩ := X.out
      exact bodyPost_ret (v := .tuple #[.agg #[.int .i64 4, .string (s.extract a K), .int .i64 (V : Nat), .int .i64 (a : Nat)], .bool (decide ((V : Int) ≤ 4503599627370496))]) (by simp [results, Tryd.results23, go_sem, t0, t1, t2, t3]) rfl ⟨LG.out, tb⟩
end Go.Proofs.YtobolipjgkabhaaDoor
