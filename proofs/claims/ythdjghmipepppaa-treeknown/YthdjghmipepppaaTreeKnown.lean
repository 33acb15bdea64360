/- Proved: the law TreeKnown of package publicanlaw7 returns true at every start, whatever memory it starts in, on every schedule; no condition. -/
import Derived.Test.YthdjghmipepppaaNd
namespace Go.Proofs.Ythdjghmipepppaa.treeKnown
open Go.ChangeShapes Go.WideShapes Go.ChangeAt Go.RowKit
set_option linter.unusedVariables false
set_option linter.unusedSimpArgs false
attribute [local go_sem] Oper.semAt_some

set_option maxRecDepth 100000 in
set_option maxHeartbeats 4000000 in
theorem putShort (w : World) (P : Value) (root : Nat) (v : ByteArray) : Calls Try.prog 10 #[P, .int .u64 (root : Nat), .string ⟨#[]⟩, .string v] w fun e w' => e = .returned (.tuple #[.int .u64 0, .int .i64 1]) ∧ w' = w := by
  go_enter Try.func10, Try.ntmps10
  go_wp2_with fail
  go_ret2
  exact ⟨rfl, rfl⟩
set_option maxRecDepth 100000 in
set_option maxHeartbeats 4000000 in
theorem putLong (w : World) (P : Value) (root : Nat) (v : ByteArray) (hv : v.size = 401) : Calls Try.prog 10 #[P, .int .u64 (root : Nat), .string ⟨#[97]⟩, .string v] w fun e w' => e = .returned (.tuple #[.int .u64 0, .int .i64 1]) ∧ w' = w := by
  go_enter Try.func10, Try.ntmps10
  go_wp2_with fail
  go_ret2
  exact ⟨rfl, rfl⟩
theorem make_bytes (w : World) (n : Nat) (h : n ≤ 100000) : (Instr.makeSlice 31 (.int .i64 (n : Nat)) (.int .i64 (n : Nat))).run Try.prog w = .ok (.slice (some ⟨w.heap.size, 0, none⟩) n n) (w.alloc (.cells (List.replicate n (Value.int .u8 0)).toArray 5)) := by
  rw [run_make_row' 31 5 (.int .u8 0) 1 Try.underlying31 byteInfo rfl .i64 .i64 n (by omega) (by omega) w, zcells 5]
theorem by_zeros (w : World) (n : Nat) (h : n ≤ 100000) : By (w.alloc (.cells (List.replicate n (Value.int .u8 0)).toArray 5)) (some ⟨w.heap.size, 0, none⟩) n n (List.replicate n 0) := by
  refine ⟨by simp, Nat.le_refl _, by unfold maxLen; omega, fun e => (by cases e), ⟨w.heap.size, 0, fun _ => rfl, fun i hi => ?_⟩, ?_⟩
  · rw [cell_of_row _ _ _ _ _ _ (heap_alloc_new w _)]
    simp [hi, List.getD]
  · intro x hx
    simp at hx
    omega
theorem zeros_size (n : Nat) : (strOfNums (List.replicate n 0)).size = n := by
  rw [str_size]
  simp
set_option maxRecDepth 100000 in
set_option maxHeartbeats 16000000 in
theorem walk (W : World) : Calls Try.prog 3 #[] W fun e w' => e = .returned (.bool true) ∧ Below W.heap.size W w' := by
  go_enter Try.func3, Try.ntmps3
  go_wp2_with fail
  refine Calls.mono (awake_any W) ?_
  rintro e w0 ⟨rfl, b0'⟩
  have B0 : Hid _ := b0'
  clear b0'
  have b1 : Hid _ := allocB w0 (.cells #[.slice none 0 0, .int .i64 0, .int .i64 0] 26)
  have S1 : Hid _ := SH.new w0
  go_upto_region 4 with fail
  generalize w0.alloc (.cells #[.slice none 0 0, .int .i64 0, .int .i64 0] 26) = w1 at *
  go_wp2_with fail
  refine Calls.mono (putShort w1 _ 0 _) ?_
  rintro e w2 ⟨rfl, rfl⟩
  have MK : (Instr.makeSlice 31 (.int .i64 401) (.int .i64 401)).run Try.prog w2 = .ok (.slice (some ⟨w2.heap.size, 0, none⟩) 401 401) (w2.alloc (.cells (List.replicate 401 (Value.int .u8 0)).toArray 5)) := make_bytes w2 401 (by decide)
  have ST := (by_zeros w2 401 (by decide)).str
  have b3 : Hid _ := allocB w2 (.cells (List.replicate 401 (Value.int .u8 0)).toArray 5)
  have Z : Hid _ := zeros_size 401
  generalize (w2.alloc (.cells (List.replicate 401 (Value.int .u8 0)).toArray 5)) = w3 at *
  generalize strOfNums (List.replicate 401 0) = z at *
  go_wp2_with fail
  refine Calls.mono (putLong w3 _ 0 z Z.out) ?_
  rintro e w4 ⟨rfl, rfl⟩
  clear MK ST
  have S4 : Hid _ := S1.out.below b3.out
  have K6 : Hid _ := dropS w0.heap.size [] 0 0 0 0 kA [] 0 w4 S4.out (by omega) (by omega) (Or.inl rfl) ⟨fun _ => rfl, fun q => absurd rfl q⟩ (by decide) (by simp) (by simp) (by omega)
  unfold ifP at K6
  go_wp2_with fail
  refine Calls.mono K6.out ?_
  rintro e w5 ⟨_, q6⟩
  rcases q6 (fun ⟨x, hx, _⟩ => by cases hx) with ⟨n6, rfl, s6, kp6, _, l6, _⟩ | ⟨_, _, _, _, q⟩
  case inr => exact absurd q (by omega)
  have A6 : Hid _ := And.intro s6 (And.intro ((Kp.of_below b1.out w0.heap.size).trans ((Kp.of_below b3.out _).trans kp6)) (by omega : n6 ≤ 100))
  have K7 : Hid _ := rangeS w0.heap.size [] n6 0 0 ByteArray.empty ByteArray.empty 9 [] 0 w5 s6 (by omega) ⟨fun _ => rfl, fun q => absurd rfl q⟩ (by simp) (by simp) (by omega)
  unfold ifP at K7
  clear q6 s6 kp6 l6 K6
  go_wp2_with fail
  refine Calls.mono K7.out ?_
  rintro e w7 ⟨v3, n3, rfl, o3, s3, kp3, _, l3⟩
  have FIN : Hid (Below W.heap.size W w7) := by
    have q := A6.out.2.1.trans kp3
    exact nextB B0.out ⟨q.os, q.tape, q.output, q.size, fun k hk => q.low k hk hk⟩
  obtain ⟨a4, c4, e4⟩ : ∃ a c, v3 = .slice a 0 c := by
    rcases o3.2 with ⟨q, _⟩ | ⟨g, cap, cur, hv, _⟩
    · exact ⟨_, _, q⟩
    · exact ⟨_, _, hv⟩
  obtain ⟨sl, vs, S, _⟩ := s3
  have c0 := S.c0
  obtain ⟨sa, sc, e5⟩ := S.sl
  have e6 : vs.length = 0 := S.len
  rw [e6] at e5
  subst e4 e5
  clear S e6 o3 kp3 K7 A6 S4 S1
  go_wp2
  go_ret
  exact ⟨rfl, FIN.out⟩

set_option maxRecDepth 100000 in
theorem lifted (os : Os) (started : os.Started) (H : Type) (enc : TypeId × Value → H) :
    ReturnsInHanded {} Try.checked os 3 .any (Rows.treeKnownSpec.pre6 enc Try.prog Try.f3 Rows.treeKnownRow.domain false) (Rows.treeKnownSpec.post enc Try.prog Try.f3 false true false false) := by
  refine returnsInHanded_of_change (C := Try.checked) own started (by kernel_rfl) Try.func3
    (ChangeSpec.witness6 (enc := enc) (C := Try.checked) false ⟨#[], #[], []⟩ 8 (by kernel_rfl) (by kernel_rfl) (by kernel_rfl) (by kernel_rfl)) ?_
  intro W base args ds gs before hval0 hW hcnd _
  have hW' := hW
  obtain ⟨p, q, hA0, hV, rfl, hfz, hnd⟩ := hW
  have hA : DataW.TrodAll enc Try.prog W 0 (fun _ => true) true Try.f3.params.toList args.toList ds p := hA0
  rw [Try.params3] at hA
  obtain ⟨rfl, rfl, rfl⟩ := trodAll_none hA
  obtain ⟨rfl, rfl⟩ := trodVars_none hV
  clear hA0 hval0
  refine (walk W).mono fun e W' ⟨he, bel⟩ => ?_
  subst he
  exact ⟨_, rfl, _, _, _, [], _, [], hW', trodAll_mk1 (shut_bool Try.underlying4 _), trodAll_mk0, rfl, bel.frame _, fun h => by cases h⟩

theorem over : Rows.treeKnownRow.holds Try.pinned (OpenSpec.ofChange Rows.treeKnownSpec) :=
  OpenClaim.holds_of_wide 3 Try.f3 rfl rfl rfl rfl rfl rfl rfl ⟨rfl, rfl, rfl, rfl, rfl⟩ rfl rfl rfl rfl rfl (by kernel_rfl) Try.func3 (by kernel_rfl)
    (of_decide_eq_true (by kernel_rfl)) (by unfold Func.isWrapper; first | (rw [if_pos (by decide +kernel)]; kernel_rfl) | (rw [if_neg (by decide +kernel)]; exact ⟨rfl, rfl⟩))
    (fun os started H enc _ => lifted os started H enc)

end Go.Proofs.Ythdjghmipepppaa.treeKnown
namespace Go.Proofs.Ythdjghmipepppaa

theorem TreeKnown_holds : Rows.TreeKnownSaid := treeKnown.over

end Go.Proofs.Ythdjghmipepppaa
