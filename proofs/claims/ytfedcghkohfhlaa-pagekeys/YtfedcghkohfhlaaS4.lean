/- Slices cut, as run equations: the walk parts no more on whether the capacity ends there. -/
import Derived.Test.YtfedcghkohfhlaaS3
namespace Go.Proofs.Ytfedcghkohfhlaa
open Go.RowKit
set_option linter.unusedVariables false
set_option linter.unusedSimpArgs false

theorem size_one {T : TypeId} {z : Value} {by0 : Nat} (hinf : (Try.prog.info? T).map (fun i => (i.zero, i.size, i.bytes)) = some (some z, 1, by0)) (w : World) : (sizeOf T).run Try.prog w = .ok 1 w := by
  obtain ⟨i0, hi, hz0, hz1, hz2⟩ := info_parts hinf
  simp [sizeOf, typeInfo, hi, hz1]
theorem elem_is {S T : TypeId} (hu : Try.prog.underlying S = some (.slice T)) : Try.prog.elem S = T := by
  simp [Program.elem, hu]
/-- 'x[k:]'. -/
theorem cut_from {S T : TypeId} {z : Value} {by0 : Nat} (hu : Try.prog.underlying S = some (.slice T)) (hinf : (Try.prog.info? T).map (fun i => (i.zero, i.size, i.bytes)) = some (some z, 1, by0)) (b o n cap k : Nat) (i : Int) (hi : i = (k : Nat)) (hk : k ≤ n) (hf : n ≤ cap) :
    ∃ O : Nat, (∀ w, (Instr.slice S (.slice (some ⟨b, o, none⟩) n cap) (some (.int .i64 i)) none none).run Try.prog w = .ok (.slice (some ⟨b, O, none⟩) (n - k) (cap - k)) w) ∧ (k < n → O = o + k) := by
  subst hi
  have he := elem_is hu
  have hu' : Try.prog.underlying S = some (.slice (Try.prog.elem S)) := by rw [he]; exact hu
  by_cases c : cap = k
  · refine ⟨o, fun w => ?_, fun q => by omega⟩
    rw [run_slice_l w S _ n cap hu' .i64 (k : Nat) (by omega) (by omega), he, size_one hinf w]
    simp [Result.andThen, sliced, c]
  · refine ⟨o + k, fun w => ?_, fun q => rfl⟩
    rw [run_slice_l w S _ n cap hu' .i64 (k : Nat) (by omega) (by omega), he, size_one hinf w]
    have hp : (⟨b, o, none⟩ : Addr).add k = ⟨b, o + k, none⟩ := Addr.add_mid b o k
    simp [Result.andThen, sliced, c, hp]
/-- 'x[:k]'. -/
theorem cut_upto {S T : TypeId} {z : Value} {by0 : Nat} (hu : Try.prog.underlying S = some (.slice T)) (hinf : (Try.prog.info? T).map (fun i => (i.zero, i.size, i.bytes)) = some (some z, 1, by0)) (b o n cap k : Nat) (i : Int) (hi : i = (k : Nat)) (hk : k ≤ cap) :
    ∀ w, (Instr.slice S (.slice (some ⟨b, o, none⟩) n cap) none (some (.int .i64 i)) none).run Try.prog w = .ok (.slice (some ⟨b, o, none⟩) k cap) w := by
  subst hi
  have he := elem_is hu
  have hu' : Try.prog.underlying S = some (.slice (Try.prog.elem S)) := by rw [he]; exact hu
  intro w
  rw [run_slice_h w S _ n cap hu' .i64 (k : Nat) (by omega) (by omega), he, size_one hinf w]
  have hp : (⟨b, o, none⟩ : Addr).add 0 = ⟨b, o + 0, none⟩ := Addr.add_mid b o 0
  by_cases c : cap = 0
  · simp [Result.andThen, sliced, c]
  · simp [Result.andThen, sliced, c, hp]

end Go.Proofs.Ytfedcghkohfhlaa
