/- Proved: the law DiskCopies of package publicanlaw4 returns true for any two rows of acts, whatever memory it starts in, on every schedule; no condition. -/
import Derived.Test.YtidfgianbahjcaaE3
namespace Go.Proofs.Ytidfgianbahjcaa.diskCopies
open Go.ChangeShapes Go.WideShapes Go.ChangeAt Go.RowKit
set_option linter.unusedVariables false

set_option maxHeartbeats 2000000 in
theorem walk_l (w : World) (a : Option Addr) (m c : Nat) (a' : Option Addr) (m' c' : Nat) (h : 40 < m) : Calls Try.prog 6 #[.slice a m c, .slice a' m' c'] w fun e w' => e = .returned (.bool true) ∧ Below w.heap.size w w' := by
  have h' : (40 : Int) < (m : Int) := by omega
  go_enter Try.func6, Try.ntmps6
  go_wp2_with (go_at_call 7; refine (awake_any w).mono ?_; rintro e w1 ⟨rfl, b1⟩)
  go_ret
  exact ⟨rfl, b1⟩
set_option maxHeartbeats 2000000 in
theorem walk_m (w : World) (a : Option Addr) (m c : Nat) (a' : Option Addr) (m' c' : Nat) (h : m ≤ 40) (h1 : 40 < m') : Calls Try.prog 6 #[.slice a m c, .slice a' m' c'] w fun e w' => e = .returned (.bool true) ∧ Below w.heap.size w w' := by
  have h' : ¬ (40 : Int) < (m : Int) := by omega
  have h1' : (40 : Int) < (m' : Int) := by omega
  go_enter Try.func6, Try.ntmps6
  go_wp2_with (go_at_call 7; refine (awake_any w).mono ?_; rintro e w1 ⟨rfl, b1⟩)
  go_ret
  exact ⟨rfl, b1⟩

/-- Two disks that share nothing. -/
structure Ne2 (p q p' q' : Nat) : Prop where
  a : p ≠ p'
  b : p ≠ q'
  c : q ≠ p'
  d : q ≠ q'
theorem Ne2.symm {p q p' q' : Nat} (h : Ne2 p q p' q') : Ne2 p' q' p q := ⟨h.a.symm, h.c.symm, h.b.symm, h.d.symm⟩
theorem _root_.Go.Proofs.Ytidfgianbahjcaa.InvD.other {w0 wr w1 : World} {p q n p' q' : Nat} {s : St} (h : InvD w0 p q n s wr) (g : Gr p' q' wr w1) (e : Ne2 p q p' q') (h1 : w0.heap.size ≤ p') (h2 : w0.heap.size ≤ q') : InvD w0 p q n s w1 :=
  ⟨h.d.gr g e.a e.b e.c e.d, Below.gr h.b g h.b.size h1 h2, h.lp, h.lq⟩
theorem ne_new {w0 wr : World} {p q n p' q' : Nat} {s : St} (h : InvD w0 p q n s wr) (h1 : wr.heap.size ≤ p') (h2 : wr.heap.size ≤ q') : Ne2 p q p' q' := by
  have := h.d.ltp
  have := h.d.ltq
  exact ⟨by omega, by omega, by omega, by omega⟩

set_option maxRecDepth 100000 in
set_option maxHeartbeats 8000000 in
theorem walk_main (w : World) (a : Option Addr) (m c : Nat) (f : Nat → Ac) (hf : Acts w a m c f) (a' : Option Addr) (m' c' : Nat) (g : Nat → Ac) (hg : Acts w a' m' c' g) (h : m ≤ 40) (h1 : m' ≤ 40) : Calls Try.prog 6 #[.slice a m c, .slice a' m' c'] w fun e w' => e = .returned (.bool true) ∧ Below w.heap.size w w' := by
  have F : Hid _ := hf
  have G : Hid _ := hg
  have e1 : ¬ (40 : Int) < (m : Int) := by omega
  have e2 : ¬ (40 : Int) < (m' : Int) := by omega
  clear hf hg
  go_enter Try.func6, Try.ntmps6
  go_wp2_with fail
  refine (awake_any w).mono ?_
  rintro e w1 ⟨rfl, b1⟩
  have B1 : Hid _ := b1
  clear b1
  go_wp2_with fail
  refine (New_yes 6 w1 (by decide) (by decide)).mono ?_
  rintro e w2 ⟨rfl, d2, b2⟩
  have T2 : Hid _ := InvD.new B1.out d2 b2 (by omega) (Nat.le_refl _)
  clear d2 b2 B1
  generalize w1.heap.size + 1 = p at *
  generalize w1.heap.size = q at *
  go_wp2_with fail
  refine (acts_any w w2 p q 6 fresh a m c f F.out T2.out h (by decide) (by decide)).mono ?_
  rintro e w3 ⟨rfl, d3, g3⟩
  have T3 : Hid _ := T2.out.gr d3 g3
  have R3 : Hid ((run 6 fresh f m).writes ≤ 100 ∧ (run 6 fresh f m).lives ≤ 100) := by
    have := run_bd 6 fresh f m
    have e1 : fresh.writes = 0 := rfl
    have e2 : fresh.lives = 1 := rfl
    exact ⟨by omega, by omega⟩
  generalize run 6 fresh f m = s1 at *
  clear d3 g3 T2 F
  go_wp2_with fail
  refine (Copy_any p q 6 s1 w3 T3.out.d (by decide)).mono ?_
  rintro e w4 ⟨pc, qc, rfl, d4, k1, k2, b4⟩
  have N4 : Hid _ := ne_new T3.out k1 k2
  have T4 : Hid _ := T3.out.below b4
  have C4 : Hid _ := InvD.new T3.out.b d4 b4 k1 k2
  clear d4 k1 k2 b4 T3
  go_wp2_with fail
  refine (Copy_any p q 6 s1 w4 T4.out.d (by decide)).mono ?_
  rintro e w5 ⟨pb, qb, rfl, d5, k1, k2, b5⟩
  have N5 : Hid _ := ne_new T4.out k1 k2
  have M5 : Hid _ := ne_new C4.out k1 k2
  have T5 : Hid _ := T4.out.below b5
  have C5 : Hid _ := C4.out.below b5
  have D5 : Hid _ := InvD.new T4.out.b d5 b5 k1 k2
  clear d5 k1 k2 b5 T4 C4
  go_wp2_with fail
  refine (acts_any w w5 pc qc 6 s1 a' m' c' g G.out C5.out h1 (by have := R3.out; omega) (by have := R3.out; omega)).mono ?_
  rintro e w6 ⟨rfl, d6, g6⟩
  have T6 : Hid _ := T5.out.other g6 N4.out C5.out.lp C5.out.lq
  have D6 : Hid _ := D5.out.other g6 M5.out.symm C5.out.lp C5.out.lq
  have C6 : Hid _ := C5.out.gr d6 g6
  clear d6 g6 T5 C5 D5
  go_wp2_with (first | (go_at_call 18; with_reducible refine Calls.mono (Power_any p q 6 s1 w6 T6.out.d) ?_; rintro e w7 ⟨rfl, rfl⟩) | (go_at_call 18; with_reducible refine Calls.mono (Power_any pb qb 6 s1 w6 D6.out.d) ?_; rintro e w7 ⟨rfl, rfl⟩) | (go_at_call 19; with_reducible refine Calls.mono (Writes_any p q 6 s1 w6 T6.out.d) ?_; rintro e w7 ⟨rfl, rfl⟩) | (go_at_call 19; with_reducible refine Calls.mono (Writes_any pb qb 6 s1 w6 D6.out.d) ?_; rintro e w7 ⟨rfl, rfl⟩) | (go_at_call 20; with_reducible refine Calls.mono (Lives_any p q 6 s1 w6 T6.out.d) ?_; rintro e w7 ⟨rfl, rfl⟩) | (go_at_call 20; with_reducible refine Calls.mono (Lives_any pb qb 6 s1 w6 D6.out.d) ?_; rintro e w7 ⟨rfl, rfl⟩))
  refine (acts_any w w6 p q 6 s1 a' m' c' g G.out T6.out h1 (by have := R3.out; omega) (by have := R3.out; omega)).mono ?_
  rintro e w8 ⟨rfl, d8, g8⟩
  have C8 : Hid _ := C6.out.other g8 N4.out.symm T6.out.lp T6.out.lq
  have T8 : Hid _ := T6.out.gr d8 g8
  generalize run 6 s1 g m' = s2 at *
  clear d8 g8 T6 C6 D6
  go_wp2_with (first | (go_at_call 18; with_reducible refine Calls.mono (Power_any p q 6 s2 w8 T8.out.d) ?_; rintro e w7 ⟨rfl, rfl⟩) | (go_at_call 18; with_reducible refine Calls.mono (Power_any pc qc 6 s2 w8 C8.out.d) ?_; rintro e w7 ⟨rfl, rfl⟩) | (go_at_call 19; with_reducible refine Calls.mono (Writes_any p q 6 s2 w8 T8.out.d) ?_; rintro e w7 ⟨rfl, rfl⟩) | (go_at_call 19; with_reducible refine Calls.mono (Writes_any pc qc 6 s2 w8 C8.out.d) ?_; rintro e w7 ⟨rfl, rfl⟩) | (go_at_call 20; with_reducible refine Calls.mono (Lives_any p q 6 s2 w8 T8.out.d) ?_; rintro e w7 ⟨rfl, rfl⟩) | (go_at_call 20; with_reducible refine Calls.mono (Lives_any pc qc 6 s2 w8 C8.out.d) ?_; rintro e w7 ⟨rfl, rfl⟩))
  go_loopg [9] 6 (fun g iv wr => ∃ k : Nat, k ≤ 6 ∧ g = 6 - k ∧ iv = .int .i64 k ∧ Hid (InvD w p q 6 s2 wr ∧ InvD w pc qc 6 s2 wr))
  case atStart => exact ⟨0, by omega, rfl, rfl, T8.out, C8.out⟩
  case round =>
    obtain ⟨k, hk, rfl, rfl, T⟩ := hrel
    by_cases qk : k < 6
    · have qk' : (k : Int) < 6 := by omega
      by_cases on : s2.on = true
      · have ON : Hid (s2.on = true) := on
        clear on
        go_wp2_with fail
        refine Calls.mono (Read_yes p q 6 s2 k wr T.out.1.d qk ON.out) ?_
        rintro e w9 ⟨rfl, hw9⟩
        have both : (s2.sec k).length = 64 ∧ Bys (s2.sec k) := ⟨T.out.1.d.ok.len k, T.out.1.d.ok.bys k⟩
        obtain ⟨T9, y9, -, -⟩ := read_facts T.out.1 hw9 both
        obtain ⟨C9, -, -, -⟩ := read_facts T.out.2 hw9 both
        have T9' : Hid _ := T9
        have C9' : Hid _ := C9
        have Y9 : Hid _ := y9
        have BO : Hid _ := both
        clear hw9 both T9 y9 C9
        go_wp2_with fail
        refine Calls.mono (Read_yes pc qc 6 s2 k w9 C9'.out.d qk ON.out) ?_
        rintro e wa ⟨rfl, hwa⟩
        obtain ⟨Ta, ya, -, -⟩ := read_facts T9'.out hwa BO.out
        obtain ⟨Ca, -, -, -⟩ := read_facts C9'.out hwa BO.out
        have yb := Y9.out.below (allocB w9 (.cells (vals (s2.sec k)).toArray 5))
        rw [hwa] at yb
        have z1 := ya.str
        have z2 := yb.str
        have TA : Hid _ := Ta
        have CA : Hid _ := Ca
        generalize strOfNums (s2.sec k) = x at *
        clear hwa Ta ya Ca yb
        go_wp2
        go_roundg (6 - (k + 1))
        case measure => omega
        case rel => exact ⟨k + 1, by omega, rfl, by go_num, TA.out, CA.out⟩
      · have OFF : Hid (s2.on = false) := by show s2.on = false; simpa using on
        clear on
        have z1 := (By.empty wr).str
        generalize strOfNums [] = x at *
        go_wp2_with fail
        refine Calls.mono (Read_no p q 6 s2 k wr T.out.1.d (Or.inr OFF.out)) ?_
        rintro e w9 ⟨rfl, rfl⟩
        go_wp2_with fail
        refine Calls.mono (Read_no pc qc 6 s2 k wr T.out.2.d (Or.inr OFF.out)) ?_
        rintro e w9 ⟨rfl, rfl⟩
        generalize rE 6 s2 k = y at *
        go_wp2
        go_roundg (6 - (k + 1))
        case measure => omega
        case rel => exact ⟨k + 1, by omega, rfl, by go_num, T.out⟩
    · obtain rfl : k = 6 := by omega
      go_wp2
      go_ret
      exact ⟨rfl, T.out.1.b⟩

theorem walk (w : World) (a : Option Addr) (m c : Nat) (f : Nat → Ac) (hf : Acts w a m c f) (a' : Option Addr) (m' c' : Nat) (g : Nat → Ac) (hg : Acts w a' m' c' g) : Calls Try.prog 6 #[.slice a m c, .slice a' m' c'] w fun e w' => e = .returned (.bool true) ∧ Below w.heap.size w w' := by
  by_cases h : 40 < m
  · exact walk_l w a m c a' m' c' h
  · by_cases h1 : 40 < m'
    · exact walk_m w a m c a' m' c' (by omega) h1
    · exact walk_main w a m c f hf a' m' c' g hg (by omega) (by omega)


set_option maxRecDepth 100000 in
theorem lifted (os : Os) (started : os.Started) (H : Type) (enc : TypeId × Value → H) :
    ReturnsInHanded {} Try.checked os 6 .any (Rows.diskCopiesSpec.pre6 enc Try.prog Try.f6 Rows.diskCopiesRow.domain false) (Rows.diskCopiesSpec.post enc Try.prog Try.f6 false true false false) := by
  refine returnsInHanded_of_change (C := Try.checked) own started (by kernel_rfl) Try.func6
    (ChangeSpec.witness6 (enc := enc) (C := Try.checked) false ⟨#[], #[.slice none 0 0, .slice none 0 0], []⟩ 8 (by kernel_rfl) (by kernel_rfl) (by kernel_rfl) (by kernel_rfl)) ?_
  intro W base args ds gs before hval0 hW hcnd _
  have hval : ∀ (j : Nat) t v, Try.f6.params[j]? = some t → args[j]? = some v → Value.okWide Try.prog W .any base t v := hval0
  have hW' := hW
  obtain ⟨p, q, hA0, hV, rfl, hfz, hnd⟩ := hW
  have hA : DataW.TrodAll enc Try.prog W 0 (fun _ => true) true Try.f6.params.toList args.toList ds p := hA0
  rw [Try.params6] at hA hval
  obtain ⟨v0, vs0, d0, ds0, p0, q0, hargs, rfl, rfl, h0, r0⟩ := trodAll_cons hA
  obtain ⟨v1, vs1, d1, ds1, p1, q1, rfl, rfl, rfl, h1, r1⟩ := trodAll_cons r0
  obtain ⟨rfl, rfl, rfl⟩ := trodAll_nil r1
  obtain rfl : args = #[v0, v1] := by cases args; simp_all
  obtain ⟨rfl, rfl⟩ := trodVars_none hV
  obtain ⟨a0, len0, cap0, rfl⟩ := okWide_slice Try.underlying31 (hval 0 31 v0 rfl rfl)
  have k0 := h0
  have lt0 : ∀ x ∈ p0, x.block < W.heap.size := by obtain ⟨m, hm⟩ := k0; exact DataW.trod_lt m _ _ _ hm
  obtain ⟨z0, w0⟩ : ∃ zs, Acts W a0 len0 cap0 zs := by
    obtain ⟨fuel, hf⟩ := h0
    exact acts_of hf
  obtain ⟨a1, len1, cap1, rfl⟩ := okWide_slice Try.underlying31 (hval 1 31 v1 rfl rfl)
  have k1 := h1
  have lt1 : ∀ x ∈ p1, x.block < W.heap.size := by obtain ⟨m, hm⟩ := k1; exact DataW.trod_lt m _ _ _ hm
  obtain ⟨z1, w1⟩ : ∃ zs, Acts W a1 len1 cap1 zs := by
    obtain ⟨fuel, hf⟩ := h1
    exact acts_of hf
  clear hA0 hval0
  refine (walk W a0 len0 cap0 z0 w0 a1 len1 cap1 z1 w1).mono fun e W' ⟨he, bel⟩ => ?_
  subst he
  exact ⟨_, rfl, _, _, _, [], _, [], hW', trodAll_mk1 (shut_bool Try.underlying4 _), (trodAll_cons_mk (Below.trod laidOut (by kernel_rfl) (of_decide_eq_true (by kernel_rfl)) k0 bel lt0) (trodAll_cons_mk (Below.trod laidOut (by kernel_rfl) (of_decide_eq_true (by kernel_rfl)) k1 bel lt1) trodAll_mk0)), rfl, bel.frame _, fun h => by cases h⟩

theorem over : Rows.diskCopiesRow.holds Try.pinned (OpenSpec.ofChange Rows.diskCopiesSpec) :=
  OpenClaim.holds_of_wide 6 Try.f6 rfl rfl rfl rfl rfl rfl rfl ⟨rfl, rfl, rfl, rfl, rfl⟩ rfl rfl rfl rfl rfl (by kernel_rfl) Try.func6 (by kernel_rfl)
    (of_decide_eq_true (by kernel_rfl)) (by unfold Func.isWrapper; first | (rw [if_pos (by decide +kernel)]; kernel_rfl) | (rw [if_neg (by decide +kernel)]; exact ⟨rfl, rfl⟩))
    (fun os started H enc _ => lifted os started H enc)

end Go.Proofs.Ytidfgianbahjcaa.diskCopies
namespace Go.Proofs.Ytidfgianbahjcaa

theorem DiskCopies_holds : Rows.DiskCopiesSaid := diskCopies.over

end Go.Proofs.Ytidfgianbahjcaa
