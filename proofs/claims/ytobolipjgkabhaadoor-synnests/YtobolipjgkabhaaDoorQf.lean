/- The walk over Same. -/
import Derived.Test.YtobolipjgkabhaaDoorQe
namespace Go.Proofs.YtobolipjgkabhaaDoor
open Go.Shelf Go.RowKit
set_option linter.unusedVariables false
set_option linter.unusedSimpArgs false

/-- Trees whose nodes have not too many kids. -/
inductive Nw : Tr → Prop
  | nd (o m : ByteArray) (k : Nat) (n : Int) (p : Nat) (ks : List Tr) (hl : ks.length ≤ 100000) (hk : ∀ t ∈ ks, Nw t) : Nw (.nd o m k n p ks)
set_option maxRecDepth 100000 in
set_option maxHeartbeats 4000000 in
theorem same_nd (o m o' m' : ByteArray) (k k' : Nat) (n n' : Int) (p p' : Nat) (ks us : List Tr) (hl : ks.length ≤ 100000) (hC : ∀ t ∈ ks, ∀ u ∈ us, SmC t u) : SmC (.nd o m k n p ks) (.nd o' m' k' n' p' us) := by
  intro w S aa ba am ac bm bc hA hB
  simp only [Tr.op, Tr.name, Tr.kind, Tr.n, Tr.pl, Tr.kids] at hA hB ⊢
  have B1 := hid (show Below w.heap.size w (w.alloc (.cells #[.string o, .string m, .int .i64 (k : Nat), .int .i64 n, .int .i64 (p : Nat), .slice aa am ac] 26)) from (Below.refl _ _).alloc (Nat.le_refl _) _)
  have X1 := hid (B6.new w 26 (.string o) (.string m) (.int .i64 (k : Nat)) (.int .i64 n) (.int .i64 (p : Nat)) (.slice aa am ac))
  obtain ⟨w1, hw1⟩ : ∃ w1, (w.alloc (.cells #[.string o, .string m, .int .i64 (k : Nat), .int .i64 n, .int .i64 (p : Nat), .slice aa am ac] 26)) = w1 := ⟨_, rfl⟩
  rw [hw1] at B1 X1
  have S1 := hid (show w1.heap.size = w.heap.size + 1 from by rw [← hw1]; simp)
  have B2' := hid (show Below w1.heap.size w1 (w1.alloc (.cells #[.string o', .string m', .int .i64 (k' : Nat), .int .i64 n', .int .i64 (p' : Nat), .slice ba bm bc] 26)) from (Below.refl _ _).alloc (Nat.le_refl _) _)
  have X2 := hid (B6.new w1 26 (.string o') (.string m') (.int .i64 (k' : Nat)) (.int .i64 n') (.int .i64 (p' : Nat)) (.slice ba bm bc))
  have Y1 := hid (X1.out.next B2'.out)
  have B2 := hid (nextB B1.out B2'.out)
  have EC := hid (eqf_any ks us _ S aa ba am ac bm bc (hA.any B2.out) (hB.any B2.out) hl hC)
  obtain ⟨F, hF⟩ : ∃ F, smT (.nd o m k n p ks) (.nd o' m' k' n' p' us) = F := ⟨_, rfl⟩
  have FE := hid hF
  rw [hF]
  clear hA hB hC hF B2'
  go_enter Tryd.func7, Tryd.ntmps7
  go_upto_region 1 with fail
  clear hw1
  generalize World.alloc w1 _ = w2 at *
  obtain ⟨a0, a1, a2, a3, a4, a5, az⟩ := Y1.out
  obtain ⟨b0, b1, b2, b3, b4, b5, bz⟩ := X2.out
  cases e1 : eqB o o'
  · have u1 : (o.toList == o'.toList) = false := (eqB_is o o').trans e1
    have FF : F = false := by rw [← FE.out]; unfold smT; rw [e1]; simp
    subst FF
    go_wp2_with fail
    go_ret
    exact ⟨rfl, B2.out⟩
  · have u1 : (o.toList == o'.toList) = true := (eqB_is o o').trans e1
    cases e2 : eqB m m'
    · have u2 : (m.toList == m'.toList) = false := (eqB_is m m').trans e2
      have FF : F = false := by rw [← FE.out]; unfold smT; rw [e2]; simp
      subst FF
      go_wp2_with fail
      go_ret
      exact ⟨rfl, B2.out⟩
    · have u2 : (m.toList == m'.toList) = true := (eqB_is m m').trans e2
      by_cases e3 : k = k'
      · subst e3
        by_cases e4 : n = n'
        · subst e4
          have FF := hid (show smL ks us = F from by rw [← FE.out]; unfold smT; rw [e1, e2]; simp)
          rw [FF.out] at EC
          go_wp2_with (go_at_call 11; with_reducible refine Calls.mono EC.out ?_; rintro e w4 ⟨rfl, x4⟩)
          go_ret
          exact ⟨rfl, nextB B2.out x4⟩
        · have u4 : (n == n') = false := by simpa using e4
          have FF : F = false := by rw [← FE.out]; unfold smT; rw [e1, e2, decide_eq_false e4]; simp
          subst FF
          go_wp2_with fail
          go_ret
          exact ⟨rfl, B2.out⟩
      · have u3 : ((k : Int) == (k' : Int)) = false := by rw [beq_eq_false_iff_ne]; omega
        have FF : F = false := by rw [← FE.out]; unfold smT; rw [e1, e2, decide_eq_false e3]; simp
        subst FF
        go_wp2_with fail
        go_ret
        exact ⟨rfl, B2.out⟩

theorem same_any : ∀ {t : Tr}, Nw t → ∀ u, SmC t u := by
  intro t h
  induction h with
  | nd o m k n p ks hl hk ih =>
    intro u
    cases u with
    | nd o' m' k' n' p' us => exact same_nd o m o' m' k k' n n' p p' ks us hl (fun t ht u _ => ih t ht u)
end Go.Proofs.YtobolipjgkabhaaDoor
