/- A page's rows. -/
import Derived.Test.YtfedcghkohfhlaaSe
namespace Go.Proofs.Ytfedcghkohfhlaa
open Go.RowKit
set_option linter.unusedVariables false
set_option linter.unusedSimpArgs false

theorem Pv.parts {w : World} {l : Bool} {a : Option Addr} {m c : Nat} {d : Option Addr} {n f : Nat} {g : Option Addr} {o h : Nat} {p : Pg} (P : Pv w (.agg #[.bool l, .slice a m c, .slice d n f, .slice g o h]) p) : l = p.leaf ∧ Sl w a m c (sv p.keys) ∧ Sl w d n f (sv p.vals) ∧ Sl w g o h (kv p.kids) := by
  obtain ⟨a', m', c', d', n', f', g', o', h', e, h1, h2, h3⟩ := P.ex
  simp at e
  obtain ⟨e0, ⟨rfl, rfl, rfl⟩, ⟨rfl, rfl, rfl⟩, rfl, rfl, rfl⟩ := e
  exact ⟨e0, h1, h2, h3⟩

end Go.Proofs.Ytfedcghkohfhlaa
