/- Proved: the law CalReads of package publicanlaw2 returns true for every string, whatever memory it starts in, on every schedule; no condition. -/
import Derived.Test.YtadifdkengfgeaaW7
import Derived.Test.YtadifdkengfgeaaRR
import Derived.ProofKit
import Derived.OpenShut
import Derived.ShutString
import Derived.ChangeOld
import Derived.Below
import Derived.ChangeMaps5
namespace Go.Proofs.Ytadifdkengfgeaa.calReads
open Go.ChangeMaps (open_string shut_string)
open Go.ChangeShapes Go.WideShapes Go.ChangeAt Go.RowKit
set_option linter.unusedVariables false

theorem own : ownKnob Try.prog.godebug = none := by kernel_rfl

theorem byte_of (c : UInt8) {x : Int} (h : x = (c.toNat : Int)) : UInt8.ofNat x.toNat = c := by
  subst h
  simp

theorem split10 (s : ByteArray) (h : s.size = 10) : ∃ c0 c1 c2 c3 c4 c5 c6 c7 c8 c9 : UInt8, s = ⟨#[c0, c1, c2, c3, c4, c5, c6, c7, c8, c9]⟩ := by
  obtain ⟨⟨l⟩⟩ := s
  have hl : l.length = 10 := h
  match l, hl with
  | [c0, c1, c2, c3, c4, c5, c6, c7, c8, c9], _ => exact ⟨c0, c1, c2, c3, c4, c5, c6, c7, c8, c9, rfl⟩

theorem text_back {c0 c1 c2 c3 c4 c5 c6 c7 c8 c9 : UInt8} (h : fitB c0 c1 c2 c3 c4 c5 c6 c7 c8 c9 = true) : strOfNums (dtext (dg4 c0 c1 c2 c3) (dg2 c5 c6) (dg2 c8 c9)) = ⟨#[c0, c1, c2, c3, c4, c5, c6, c7, c8, c9]⟩ := by
  obtain ⟨h0, h1, h2, h3, h5, h6, h8, h9, h4, h7⟩ := fit_digs h
  have b0 := isDig_of h0
  have b1 := isDig_of h1
  have b2 := isDig_of h2
  have b3 := isDig_of h3
  have b5 := isDig_of h5
  have b6 := isDig_of h6
  have b8 := isDig_of h8
  have b9 := isDig_of h9
  have e0 : UInt8.ofNat (48 + (dg4 c0 c1 c2 c3) / 10 / 10 / 10 % 10).toNat = c0 := byte_of c0 (by unfold dg4 dig; omega)
  have e1 : UInt8.ofNat (48 + (dg4 c0 c1 c2 c3) / 10 / 10 % 10).toNat = c1 := byte_of c1 (by unfold dg4 dig; omega)
  have e2 : UInt8.ofNat (48 + (dg4 c0 c1 c2 c3) / 10 % 10).toNat = c2 := byte_of c2 (by unfold dg4 dig; omega)
  have e3 : UInt8.ofNat (48 + (dg4 c0 c1 c2 c3) % 10).toNat = c3 := byte_of c3 (by unfold dg4 dig; omega)
  have e5 : UInt8.ofNat (48 + (dg2 c5 c6) / 10 % 10).toNat = c5 := byte_of c5 (by unfold dg2 dig; omega)
  have e6 : UInt8.ofNat (48 + (dg2 c5 c6) % 10).toNat = c6 := byte_of c6 (by unfold dg2 dig; omega)
  have e8 : UInt8.ofNat (48 + (dg2 c8 c9) / 10 % 10).toNat = c8 := byte_of c8 (by unfold dg2 dig; omega)
  have e9 : UInt8.ofNat (48 + (dg2 c8 c9) % 10).toNat = c9 := byte_of c9 (by unfold dg2 dig; omega)
  have e4 : UInt8.ofNat (45 : Int).toNat = c4 := byte_of c4 h4.symm
  have e7 : UInt8.ofNat (45 : Int).toNat = c7 := byte_of c7 h7.symm
  show (⟨#[UInt8.ofNat (48 + (dg4 c0 c1 c2 c3) / 10 / 10 / 10 % 10).toNat, UInt8.ofNat (48 + (dg4 c0 c1 c2 c3) / 10 / 10 % 10).toNat, UInt8.ofNat (48 + (dg4 c0 c1 c2 c3) / 10 % 10).toNat, UInt8.ofNat (48 + (dg4 c0 c1 c2 c3) % 10).toNat, UInt8.ofNat (45 : Int).toNat, UInt8.ofNat (48 + (dg2 c5 c6) / 10 % 10).toNat, UInt8.ofNat (48 + (dg2 c5 c6) % 10).toNat, UInt8.ofNat (45 : Int).toNat, UInt8.ofNat (48 + (dg2 c8 c9) / 10 % 10).toNat, UInt8.ofNat (48 + (dg2 c8 c9) % 10).toNat]⟩ : ByteArray) = _
  rw [e0, e1, e2, e3, e5, e6, e8, e9]
  have q4 : c4 = 45 := by rw [← e4]; rfl
  have q7 : c7 = 45 := by rw [← e7]; rfl
  rw [q4, q7]
  rfl

set_option maxHeartbeats 4000000 in
theorem walk_long (s : ByteArray) (w : World) (h : s.size > 100) (hm : s.size < 9223372036854775808) :
    Calls Try.prog 5 #[.string s] w fun e w' => e = .returned (.bool true) ∧ Below w.heap.size w w' := by
  have h' : (s.size : Int) > 100 := by omega
  go_enter Try.func5, Try.ntmps5
  go_wp2_with (go_at_call 9; refine (awake_any _).mono ?_; rintro e w1 ⟨rfl, hb1⟩)
  go_ret
  exact ⟨rfl, hb1⟩

set_option maxHeartbeats 4000000 in
theorem walk_no (s : ByteArray) (n : Int) (w : World) (h : s.size ≤ 100)
    (k1 : ∀ w : World, Calls Try.prog 12 #[.string s] w fun e w' => e = .returned (.tuple #[.int .i64 n, .bool false]) ∧ Below w.heap.size w w')
    (k2 : ∀ w : World, Calls Try.prog 24 #[.string s] w fun e w' => e = .returned (.tuple #[.int .i64 n, .bool false]) ∧ Below w.heap.size w w') :
    Calls Try.prog 5 #[.string s] w fun e w' => e = .returned (.bool true) ∧ Below w.heap.size w w' := by
  have h' : ¬ (s.size : Int) > 100 := by omega
  have K1 : Hid _ := k1
  have K2 : Hid _ := k2
  have K3 : Hid _ := k2
  clear k1 k2
  go_enter Try.func5, Try.ntmps5
  go_wp2_with (first | (go_at_call 9; refine (awake_any _).mono ?_; rintro e w1 ⟨rfl, hb1⟩) | (go_at_call 12; with_reducible refine Calls.mono (K1.out _) ?_; rintro e w2 ⟨rfl, hb2⟩) | (go_at_call 24; with_reducible refine Calls.mono (K2.out _) ?_; rintro e w3 ⟨rfl, hb3⟩) | (go_at_call 14; with_reducible refine Calls.mono (K3.out _) ?_; rintro e w4 ⟨rfl, hb4⟩))
  go_ret
  exact ⟨rfl, nextB (nextB hb1 hb2) hb3⟩

set_option maxHeartbeats 4000000 in
theorem walk_yes (s : ByteArray) (n : Int) (w : World) (h : s.size ≤ 100)
    (k1 : ∀ w : World, Calls Try.prog 12 #[.string s] w fun e w' => e = .returned (.tuple #[.int .i64 n, .bool true]) ∧ Below w.heap.size w w')
    (k2 : ∀ w : World, Calls Try.prog 24 #[.string s] w fun e w' => e = .returned (.tuple #[.int .i64 n, .bool true]) ∧ Below w.heap.size w w')
    (k3 : ∀ w : World, Calls Try.prog 14 #[.int .i64 n] w fun e w' => e = .returned (.string s) ∧ Below w.heap.size w w') :
    Calls Try.prog 5 #[.string s] w fun e w' => e = .returned (.bool true) ∧ Below w.heap.size w w' := by
  have h' : ¬ (s.size : Int) > 100 := by omega
  have K1 : Hid _ := k1
  have K2 : Hid _ := k2
  have K3 : Hid _ := k3
  clear k1 k2 k3
  go_enter Try.func5, Try.ntmps5
  go_wp2_with (first | (go_at_call 9; refine (awake_any _).mono ?_; rintro e w1 ⟨rfl, hb1⟩) | (go_at_call 12; with_reducible refine Calls.mono (K1.out _) ?_; rintro e w2 ⟨rfl, hb2⟩) | (go_at_call 24; with_reducible refine Calls.mono (K2.out _) ?_; rintro e w3 ⟨rfl, hb3⟩) | (go_at_call 14; with_reducible refine Calls.mono (K3.out _) ?_; rintro e w4 ⟨rfl, hb4⟩))
  go_ret
  exact ⟨rfl, nextB (nextB (nextB hb1 hb2) hb3) hb4⟩

theorem walk (s : ByteArray) (hm : s.size < 9223372036854775808) (w : World) :
    Calls Try.prog 5 #[.string s] w fun e w' => e = .returned (.bool true) ∧ Below w.heap.size w w' := by
  by_cases h : s.size > 100
  · exact walk_long s w h hm
  · by_cases h10 : s.size = 10
    · obtain ⟨c0, c1, c2, c3, c4, c5, c6, c7, c8, c9, rfl⟩ := split10 s h10
      cases z : rdB c0 c1 c2 c3 c4 c5 c6 c7 c8 c9
      · exact walk_no _ (rdN c0 c1 c2 c3 c4 c5 c6 c7 c8 c9) w (by omega) (fun w => by have := read_all c0 c1 c2 c3 c4 c5 c6 c7 c8 c9 w; rw [z] at this; exact this) (fun w => by have := rread_all c0 c1 c2 c3 c4 c5 c6 c7 c8 c9 w; rw [z] at this; exact this)
      · have f : fitB c0 c1 c2 c3 c4 c5 c6 c7 c8 c9 = true := by
          cases q : fitB c0 c1 c2 c3 c4 c5 c6 c7 c8 c9
          · rw [(rd_no q).2] at z; cases z
          · rfl
        have hd : dateB (dg4 c0 c1 c2 c3) (dg2 c5 c6) (dg2 c8 c9) = true := by rw [← (rd_yes f).2]; exact z
        refine walk_yes _ (rdN c0 c1 c2 c3 c4 c5 c6 c7 c8 c9) w (by omega) (fun w => by have := read_all c0 c1 c2 c3 c4 c5 c6 c7 c8 c9 w; rw [z] at this; exact this) (fun w => by have := rread_all c0 c1 c2 c3 c4 c5 c6 c7 c8 c9 w; rw [z] at this; exact this) (fun w => ?_)
        have t := text_yes w (isDate_of hd)
        rw [text_back f, ← (rd_yes f).1] at t
        exact t
    · refine walk_no s 0 w (by omega) (fun w => ?_) (fun w => ?_)
      · refine (read_other s w h10 hm).mono ?_
        rintro e w' ⟨rfl, rfl⟩
        exact ⟨rfl, Below.refl _ _⟩
      · refine (rread_other s w h10 hm).mono ?_
        rintro e w' ⟨rfl, rfl⟩
        exact ⟨rfl, Below.refl _ _⟩


set_option maxRecDepth 100000 in
theorem lifted (os : Os) (started : os.Started) (H : Type) (enc : TypeId × Value → H) :
    ReturnsInHanded {} Try.checked os 5 .any (Rows.calReadsSpec.pre6 enc Try.prog Try.f5 Rows.calReadsRow.domain false) (Rows.calReadsSpec.post enc Try.prog Try.f5 false true false false) := by
  refine returnsInHanded_of_change (C := Try.checked) own started (by kernel_rfl) Try.func5
    (ChangeSpec.witness6 (enc := enc) (C := Try.checked) false ⟨#[], #[.string ByteArray.empty], []⟩ 8 (by kernel_rfl) (by kernel_rfl) (by kernel_rfl) (by kernel_rfl)) ?_
  intro W base args ds gs before hval0 hW hcnd _
  have hval : ∀ (j : Nat) t v, Try.f5.params[j]? = some t → args[j]? = some v → Value.okWide Try.prog W .any base t v := hval0
  have hW' := hW
  obtain ⟨p, q, hA0, hV, rfl, hfz, hnd⟩ := hW
  have hA : DataW.TrodAll enc Try.prog W 0 (fun _ => true) true Try.f5.params.toList args.toList ds p := hA0
  rw [Try.params5] at hA hval
  obtain ⟨v0, vs0, d0, ds0, p0, q0, hargs, rfl, rfl, h0, r0⟩ := trodAll_cons hA
  obtain ⟨rfl, rfl, rfl⟩ := trodAll_nil r0
  obtain rfl : args = #[v0] := by cases args; simp_all
  obtain ⟨rfl, rfl⟩ := trodVars_none hV
  obtain ⟨a0, rfl, rfl, rfl, w0⟩ := open_string Try.underlying9 (hval 0 9 v0 rfl rfl) h0
  clear hA0 hval0
  refine (walk a0 (by have := w0; unfold maxLen at this; omega) W).mono fun e W' ⟨he, bel⟩ => ?_
  subst he
  exact ⟨_, rfl, _, _, _, [], _, [], hW', trodAll_mk1 (shut_bool Try.underlying4 _), (trodAll_cons_mk (shut_string Try.underlying9 w0) trodAll_mk0), rfl, bel.frame _, fun h => by cases h⟩

theorem over : Rows.calReadsRow.holds Try.pinned (OpenSpec.ofChange Rows.calReadsSpec) :=
  OpenClaim.holds_of_wide 5 Try.f5 rfl rfl rfl rfl rfl rfl rfl ⟨rfl, rfl, rfl, rfl, rfl⟩ rfl rfl rfl rfl rfl (by kernel_rfl) Try.func5 (by kernel_rfl)
    (of_decide_eq_true (by kernel_rfl)) (by unfold Func.isWrapper; first | (rw [if_pos (by decide +kernel)]; kernel_rfl) | (rw [if_neg (by decide +kernel)]; exact ⟨rfl, rfl⟩))
    (fun os started H enc _ => lifted os started H enc)

end Go.Proofs.Ytadifdkengfgeaa.calReads
namespace Go.Proofs.Ytadifdkengfgeaa

theorem CalReads_holds : Rows.CalReadsSaid := calReads.over

end Go.Proofs.Ytadifdkengfgeaa
