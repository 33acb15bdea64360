/- What the laws' shells share. -/
import Derived.Test.YtfedcghkohfhlaaRows
import Derived.Test.YtfedcghkohfhlaaAw
import Derived.ProofKit
namespace Go.Proofs.Ytfedcghkohfhlaa
theorem own : ownKnob Try.prog.godebug = none := by kernel_rfl
theorem laidOut : laidOutB Try.prog = true := by kernel_rfl
end Go.Proofs.Ytfedcghkohfhlaa
