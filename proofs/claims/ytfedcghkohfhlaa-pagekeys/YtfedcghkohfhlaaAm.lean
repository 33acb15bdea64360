/- What the document tells of a leaf: the answers. -/
import Derived.Test.YtfedcghkohfhlaaY7
import Derived.Test.YtfedcghkohfhlaaV5
import Derived.Test.YtfedcghkohfhlaaT3
import Derived.Test.YtfedcghkohfhlaaU2
namespace Go.Proofs.Ytfedcghkohfhlaa
open Go.RowKit
set_option linter.unusedVariables false
set_option linter.unusedSimpArgs false

def pgA : Pg := ⟨true, [⟨#[97]⟩], [⟨#[49]⟩], []⟩
def pgR : Pg := ⟨true, [⟨#[97]⟩, ⟨#[98]⟩], [⟨#[49]⟩, ⟨#[50]⟩], []⟩
def pgS : Pg := ⟨true, [⟨#[98]⟩], [⟨#[50]⟩], []⟩
def pgM : Pg := ⟨false, [⟨#[109]⟩], [], [1, 2]⟩
theorem pgA_enc : encP pgA = [76, 1, 1, 97, 1, 49] := by kernel_rfl
theorem pgA_good : goodB pgA = true := by kernel_rfl
theorem pgR_good : goodB pgR = true := by kernel_rfl
theorem pgM_good : goodB pgM = true := by kernel_rfl
theorem pgA_put : putP pgA ⟨#[98]⟩ ⟨#[50]⟩ = pgR := by kernel_rfl
theorem pgR_drop : dropP pgR ⟨#[97]⟩ = pgS := by kernel_rfl
theorem pgA_pos : posS pgA.keys ⟨#[97]⟩ = 0 := by kernel_rfl
theorem pgA_fnd : fnd pgA.keys ⟨#[97]⟩ = true := by kernel_rfl
theorem pgM_pl : plS pgM.keys ⟨#[110]⟩ = 1 := by kernel_rfl
theorem pgR_mid : mid (szs pgR.keys pgR.vals) = 1 := by kernel_rfl
theorem fitS {p : Pg} (h : p.keys.length ≤ 2 ∧ p.vals.length ≤ 2 ∧ p.kids.length ≤ 3 ∧ tot p.keys ≤ 10 ∧ tot p.vals ≤ 10) (hk : ∀ k ∈ p.kids, k < 18446744073709551616) (e : p.leaf = true → p.vals.length = p.keys.length) : Fit p :=
  ⟨by omega, by omega, by omega, by omega, by omega, hk, e⟩
theorem pgA_fit : Fit pgA := fitS (by decide +kernel) (fun k hk => by simp [pgA] at hk) (fun _ => rfl)
theorem pgR_fit : Fit pgR := fitS (by decide +kernel) (fun k hk => by simp [pgR] at hk) (fun _ => rfl)
theorem pgM_fit : Fit pgM := fitS (by decide +kernel) (fun k hk => by simp [pgM] at hk; omega) (fun h => by simp [pgM] at h)
theorem pgA_dcd : dcd [76, 1, 1, 97, 1, 49] = some pgA := by rw [← pgA_enc]; exact dcd_encP pgA_good pgA_fit
theorem pgR_A : (lfA pgR).keys.length = 1 := by unfold lfA; rw [pgR_mid]; rfl
theorem pgR_B : (lfB pgR).keys.length = 1 := by unfold lfB; rw [pgR_mid]; rfl
theorem pgR_key : kAt pgR.keys (mid (szs pgR.keys pgR.vals)) = ⟨#[98]⟩ := by rw [pgR_mid]; rfl
theorem riseA : Rise pgA.keys := keysB_rise (goodB_parts pgA_good).1
theorem riseR : Rise pgR.keys := keysB_rise (goodB_parts pgR_good).1
theorem riseM : Rise pgM.keys := keysB_rise (goodB_parts pgM_good).1

/-- A page is laid into a new place. -/
theorem laid (w : World) (v0 v1 v2 v3 : Value) : Below w.heap.size w (((((w.alloc (.cells #[.bool false, (.slice none 0 0), (.slice none 0 0), (.slice none 0 0)] 26)).setCell ⟨w.heap.size, 0, none⟩ v0).setCell ⟨w.heap.size, 1, none⟩ v1).setCell ⟨w.heap.size, 2, none⟩ v2).setCell ⟨w.heap.size, 3, none⟩ v3) ∧ B4 (((((w.alloc (.cells #[.bool false, (.slice none 0 0), (.slice none 0 0), (.slice none 0 0)] 26)).setCell ⟨w.heap.size, 0, none⟩ v0).setCell ⟨w.heap.size, 1, none⟩ v1).setCell ⟨w.heap.size, 2, none⟩ v2).setCell ⟨w.heap.size, 3, none⟩ v3) w.heap.size v0 v1 v2 v3 := by
  have B := B4.new w (.bool false) (.slice none 0 0) (.slice none 0 0) (.slice none 0 0) 26
  have X := stored4 B v0 v1 v2 v3
  exact ⟨(allocB w _).grown X.2 (allocB w _).size (fun k hk => by injection hk with hk; omega), X.1⟩
theorem laid2 (w : World) (v0 v1 v2 v3 u0 u1 u2 u3 : Value) : Below w.heap.size w ((((((((((w.alloc (.cells #[.bool false, (.slice none 0 0), (.slice none 0 0), (.slice none 0 0)] 26)).alloc (.cells #[.bool false, (.slice none 0 0), (.slice none 0 0), (.slice none 0 0)] 26)).setCell ⟨w.heap.size, 0, none⟩ v0).setCell ⟨w.heap.size, 1, none⟩ v1).setCell ⟨w.heap.size, 2, none⟩ v2).setCell ⟨w.heap.size, 3, none⟩ v3).setCell ⟨w.heap.size + 1, 0, none⟩ u0).setCell ⟨w.heap.size + 1, 1, none⟩ u1).setCell ⟨w.heap.size + 1, 2, none⟩ u2).setCell ⟨w.heap.size + 1, 3, none⟩ u3) ∧ B4 ((((((((((w.alloc (.cells #[.bool false, (.slice none 0 0), (.slice none 0 0), (.slice none 0 0)] 26)).alloc (.cells #[.bool false, (.slice none 0 0), (.slice none 0 0), (.slice none 0 0)] 26)).setCell ⟨w.heap.size, 0, none⟩ v0).setCell ⟨w.heap.size, 1, none⟩ v1).setCell ⟨w.heap.size, 2, none⟩ v2).setCell ⟨w.heap.size, 3, none⟩ v3).setCell ⟨w.heap.size + 1, 0, none⟩ u0).setCell ⟨w.heap.size + 1, 1, none⟩ u1).setCell ⟨w.heap.size + 1, 2, none⟩ u2).setCell ⟨w.heap.size + 1, 3, none⟩ u3) w.heap.size v0 v1 v2 v3 ∧ B4 ((((((((((w.alloc (.cells #[.bool false, (.slice none 0 0), (.slice none 0 0), (.slice none 0 0)] 26)).alloc (.cells #[.bool false, (.slice none 0 0), (.slice none 0 0), (.slice none 0 0)] 26)).setCell ⟨w.heap.size, 0, none⟩ v0).setCell ⟨w.heap.size, 1, none⟩ v1).setCell ⟨w.heap.size, 2, none⟩ v2).setCell ⟨w.heap.size, 3, none⟩ v3).setCell ⟨w.heap.size + 1, 0, none⟩ u0).setCell ⟨w.heap.size + 1, 1, none⟩ u1).setCell ⟨w.heap.size + 1, 2, none⟩ u2).setCell ⟨w.heap.size + 1, 3, none⟩ u3) (w.heap.size + 1) u0 u1 u2 u3 := by
  have A := (B4.new w (.bool false) (.slice none 0 0) (.slice none 0 0) (.slice none 0 0) 26).below (allocB _ (.cells #[.bool false, (.slice none 0 0), (.slice none 0 0), (.slice none 0 0)] 26))
  have C := B4.new (w.alloc (.cells #[.bool false, (.slice none 0 0), (.slice none 0 0), (.slice none 0 0)] 26)) (.bool false) (.slice none 0 0) (.slice none 0 0) (.slice none 0 0) 26
  rw [World.size_alloc] at C
  have X := stored4 A v0 v1 v2 v3
  have Y := stored4 (C.grown X.2 (fun e => by injection e with e; omega)) u0 u1 u2 u3
  have b0 := nextB (allocB w (.cells #[.bool false, (.slice none 0 0), (.slice none 0 0), (.slice none 0 0)] 26)) (allocB _ (.cells #[.bool false, (.slice none 0 0), (.slice none 0 0), (.slice none 0 0)] 26))
  have b1 := b0.grown X.2 b0.size (fun k hk => by injection hk with hk; omega)
  exact ⟨b1.grown Y.2 b1.size (fun k hk => by injection hk with hk; omega), X.1.grown Y.2 (fun e => by injection e with e; omega), Y.1⟩

end Go.Proofs.Ytfedcghkohfhlaa
