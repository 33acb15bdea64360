/- Pages that are asked of: they are within the walks' bounds. -/
import Derived.Test.YtfedcghkohfhlaaT3
import Derived.Test.YtfedcghkohfhlaaPc
namespace Go.Proofs.Ytfedcghkohfhlaa
open Go.RowKit
set_option linter.unusedVariables false
set_option linter.unusedSimpArgs false

theorem Small.bd {p : Pg} (s : Small p) (k : ∀ k ∈ p.kids, k < 18446744073709551616) : Bd p := by
  have a := s.keys
  have b := s.vals
  have c := s.kids
  have d := s.tot
  exact ⟨by omega, by omega, by omega, by omega, by omega, k⟩
theorem Small.fit {p : Pg} (s : Small p) (k : ∀ k ∈ p.kids, k < 18446744073709551616) (g : goodB p = true) : Fit p := by
  have a := s.keys
  have b := s.vals
  have c := s.kids
  have d := s.tot
  exact ⟨by omega, by omega, by omega, by omega, by omega, k, fun e => (goodB_leaf g e).1⟩
theorem Small.len {p : Pg} (s : Small p) (k : ∀ k ∈ p.kids, k < 18446744073709551616) : (encP p).length ≤ 20000 := by
  have a := s.keys
  have b := s.vals
  have c := s.kids
  have d := s.tot
  have t4 := enc_len10 (u := p.keys.length) (by omega)
  cases hl : p.leaf with
  | true =>
    rw [encP_leaf hl, List.length_append]
    have := encI_le p.keys p.vals (by omega) (by omega)
    unfold encH
    rw [List.length_cons]
    omega
  | false =>
    rw [encP_branch hl, List.length_append, List.length_append]
    have := encK_le p.keys (by omega)
    have := encN_le p.kids k
    unfold encH
    rw [List.length_cons]
    omega

end Go.Proofs.Ytfedcghkohfhlaa
