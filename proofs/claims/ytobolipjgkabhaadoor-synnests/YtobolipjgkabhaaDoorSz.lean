/- The walk over pattern. -/
import Derived.Test.YtobolipjgkabhaaDoorGa
namespace Go.Proofs.YtobolipjgkabhaaDoor
open Go.Shelf Go.RowKit
set_option linter.unusedVariables false
set_option linter.unusedSimpArgs false

/-- How a node is written. -/
def patF (op : ByteArray) (m : Nat) : ByteArray := if (eqB op ⟨#[105, 110, 112, 117, 116]⟩) = true then ⟨#[105, 110, 112, 117, 116, 32, 78, 32, 75, 59]⟩ else if (eqB op ⟨#[114, 117, 108, 101]⟩) = true then ⟨#[114, 117, 108, 101, 32, 78, 32, 75, 32, 61, 32, 69, 59]⟩ else if (eqB op ⟨#[114, 111, 119]⟩) = true then (if m = 1 then ⟨#[101, 108, 115, 101, 32, 69]⟩ else ⟨#[69, 58, 32, 69, 44, 32]⟩) else if (eqB op ⟨#[110, 97, 109, 101]⟩) = true then ⟨#[78]⟩ else if (eqB op ⟨#[105, 102]⟩) = true then ⟨#[40, 105, 102, 32, 69, 32, 116, 104, 101, 110, 32, 69, 32, 101, 108, 115, 101, 32, 69, 41]⟩ else if (eqB op ⟨#[43]⟩ || eqB op ⟨#[45]⟩ || eqB op ⟨#[42]⟩ || eqB op ⟨#[47]⟩ || eqB op ⟨#[60]⟩ || eqB op ⟨#[60, 61]⟩ || eqB op ⟨#[62]⟩ || eqB op ⟨#[62, 61]⟩ || eqB op ⟨#[61, 61]⟩ || eqB op ⟨#[33, 61]⟩ || eqB op ⟨#[97, 110, 100]⟩ || eqB op ⟨#[111, 114]⟩) = true then ⟨#[40, 69, 32, 79, 32, 69, 41]⟩ else if (eqB op ⟨#[110, 101, 103]⟩) = true then ⟨#[40, 45, 32, 69, 41]⟩ else if (eqB op ⟨#[110, 111, 116]⟩) = true then ⟨#[40, 110, 111, 116, 32, 69, 41]⟩ else if (eqB op ⟨#[109, 105, 110]⟩ || eqB op ⟨#[109, 97, 120]⟩) = true then ⟨#[79, 40, 69, 44, 32, 69, 41]⟩ else if (eqB op ⟨#[108, 101, 110]⟩) = true then ⟨#[108, 101, 110, 40, 69, 41]⟩ else if (eqB op ⟨#[97, 116]⟩) = true then ⟨#[97, 116, 40, 78, 44, 32, 69, 41]⟩ else if (eqB op ⟨#[115, 117, 109]⟩) = true then ⟨#[115, 117, 109, 40, 78, 32, 105, 110, 32, 69, 58, 32, 69, 41]⟩ else ⟨#[]⟩
set_option maxRecDepth 100000 in
set_option maxHeartbeats 4000000 in
theorem pattern_any (op nm : ByteArray) (kd n pl : Int) (sa : Option Addr) (sm sc : Nat) (w : World) :
    Calls Tryd.prog 21 #[.agg #[.string op, .string nm, .int .i64 kd, .int .i64 n, .int .i64 pl, .slice sa sm sc]] w fun e w' => e = .returned (.string (patF op sm)) ∧ Below w.heap.size w w' := by
  obtain ⟨P, hP⟩ : ∃ P, patF op sm = P := ⟨_, rfl⟩
  have E := hid (show P = if (op.toList == [105, 110, 112, 117, 116]) = true then ⟨#[105, 110, 112, 117, 116, 32, 78, 32, 75, 59]⟩ else if (op.toList == [114, 117, 108, 101]) = true then ⟨#[114, 117, 108, 101, 32, 78, 32, 75, 32, 61, 32, 69, 59]⟩ else if (op.toList == [114, 111, 119]) = true then (if (sm : Int) = 1 then ⟨#[101, 108, 115, 101, 32, 69]⟩ else ⟨#[69, 58, 32, 69, 44, 32]⟩) else if (op.toList == [110, 97, 109, 101]) = true then ⟨#[78]⟩ else if (op.toList == [105, 102]) = true then ⟨#[40, 105, 102, 32, 69, 32, 116, 104, 101, 110, 32, 69, 32, 101, 108, 115, 101, 32, 69, 41]⟩ else if (op.toList == [43] || op.toList == [45] || op.toList == [42] || op.toList == [47] || op.toList == [60] || op.toList == [60, 61] || op.toList == [62] || op.toList == [62, 61] || op.toList == [61, 61] || op.toList == [33, 61] || op.toList == [97, 110, 100] || op.toList == [111, 114]) = true then ⟨#[40, 69, 32, 79, 32, 69, 41]⟩ else if (op.toList == [110, 101, 103]) = true then ⟨#[40, 45, 32, 69, 41]⟩ else if (op.toList == [110, 111, 116]) = true then ⟨#[40, 110, 111, 116, 32, 69, 41]⟩ else if (op.toList == [109, 105, 110] || op.toList == [109, 97, 120]) = true then ⟨#[79, 40, 69, 44, 32, 69, 41]⟩ else if (op.toList == [108, 101, 110]) = true then ⟨#[108, 101, 110, 40, 69, 41]⟩ else if (op.toList == [97, 116]) = true then ⟨#[97, 116, 40, 78, 44, 32, 69, 41]⟩ else if (op.toList == [115, 117, 109]) = true then ⟨#[115, 117, 109, 40, 78, 32, 105, 110, 32, 69, 58, 32, 69, 41]⟩ else ⟨#[]⟩ from by
    rw [← hP]
    simp only [eqL]
    unfold patF
    have e : ((sm : Int) = 1) = (sm = 1) := by simp; omega
    simp only [e])
  rw [hP]
  clear hP
  have B0 := hid (show Below w.heap.size w (w.alloc (.cells #[.string op, .string nm, .int .i64 kd, .int .i64 n, .int .i64 pl, .slice sa sm sc] 26)) from (Below.refl _ _).alloc (Nat.le_refl _) _)
  obtain ⟨c0, c1, c2, c3, c4, c5, cz⟩ := B6.new w 26 (.string op) (.string nm) (.int .i64 kd) (.int .i64 n) (.int .i64 pl) (.slice sa sm sc)
  go_enter Tryd.func21, Tryd.ntmps21
  go_upto_region 1 with fail
  generalize World.alloc w _ = w1 at *
  go_wp2_with fail
  all_goals go_ret
  all_goals refine ⟨congrArg (fun b => Ending.returned (Value.string b)) ?_, B0.out⟩
  all_goals (clear c0 c1 c2 c3 c4 c5 cz B0; rw [E.out]; simp_all)
end Go.Proofs.YtobolipjgkabhaaDoor
