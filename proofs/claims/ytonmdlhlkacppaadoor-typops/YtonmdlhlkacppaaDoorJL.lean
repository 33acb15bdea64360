/- The walks over publicanref11's Unary and Binary: which operators take which kinds. The walks over publicanref11's Binary: which operators take which kinds. The walk over publicanref11's decl. Maps from names, as they lie in memory: look-ups and stores. The walks over typ's only, isAmount, isRanked, isKey; the table of what may be reckoned. -/
import Derived.Test.YtonmdlhlkacppaaDoorJU
import Derived.BigQuiet
import Derived.Test.YtonmdlhlkacppaaDoorJE
import Derived.Deep.RegionHeld3
import Derived.Deep.CutBlock
import Derived.MapKept
import Derived.Laws.Rows
namespace Go.Proofs.YtonmdlhlkacppaaDoor
open Go.RowKit
set_option linter.unusedVariables false
set_option linter.unusedSimpArgs false

def unK (op : ByteArray) (a : Int) : Int :=
  if (op.toList == [110, 111, 116]) = true ∧ a = 1 then a else if (op.toList == [110, 101, 103]) = true ∧ 2 ≤ a ∧ a ≤ 4 then a else 0
set_option maxHeartbeats 4000000 in
theorem unary_any (op : ByteArray) (a : Int) (w : World) : Calls Tryd.prog 50 #[.string op, .int .i64 a] w fun e w' => e = .returned (.int .i64 (unK op a)) ∧ w = w' := by
  go_enter Tryd.func50, Tryd.ntmps50
  go_wp2_with fail
  all_goals go_ret
  all_goals refine ⟨congrArg (fun b => Ending.returned (Value.int .i64 b)) ?_, rfl⟩
  all_goals unfold unK
  all_goals first
    | (simp_all; done)
    | (simp_all; omega)
    | (simp_all <;> omega)
end Go.Proofs.YtonmdlhlkacppaaDoor

namespace Go.Proofs.YtonmdlhlkacppaaDoor
open Go.RowKit
set_option linter.unusedVariables false
set_option linter.unusedSimpArgs false

def binK (op : ByteArray) (a b : Int) : Int :=
  if eqB op ⟨#[43]⟩ = true then (if (a = b ∧ 2 ≤ a ∧ a ≤ 4) ∨ (a = 5 ∧ b = 2) then a else 0)
  else if eqB op ⟨#[45]⟩ = true then (if (a = b ∧ 2 ≤ a ∧ a ≤ 4) ∨ (a = 5 ∧ b = 2) then a else if a = 5 ∧ b = 5 then 2 else 0)
  else if eqB op ⟨#[42]⟩ = true then (if a > b then (if b = 2 ∧ 2 ≤ a ∧ a ≤ 4 then a else if b = 3 ∧ a = 4 then 3 else 0) else (if a = 2 ∧ 2 ≤ b ∧ b ≤ 4 then b else if a = 3 ∧ b = 4 then 3 else 0))
  else if eqB op ⟨#[47]⟩ = true then (if b = 2 ∧ (a = 2 ∨ a = 3) then a else if a = 3 ∧ b = 3 then 4 else 0)
  else if eqB op ⟨#[60]⟩ = true then (if a = b ∧ 2 ≤ a ∧ a ≤ 5 then 1 else 0)
  else if eqB op ⟨#[60, 61]⟩ = true then (if a = b ∧ 2 ≤ a ∧ a ≤ 5 then 1 else 0)
  else if eqB op ⟨#[62]⟩ = true then (if a = b ∧ 2 ≤ a ∧ a ≤ 5 then 1 else 0)
  else if eqB op ⟨#[62, 61]⟩ = true then (if a = b ∧ 2 ≤ a ∧ a ≤ 5 then 1 else 0)
  else if eqB op ⟨#[61, 61]⟩ = true then (if a = b ∧ 1 ≤ a ∧ a ≤ 5 then 1 else 0)
  else if eqB op ⟨#[33, 61]⟩ = true then (if a = b ∧ 1 ≤ a ∧ a ≤ 5 then 1 else 0)
  else if eqB op ⟨#[97, 110, 100]⟩ = true then (if a = 1 ∧ b = 1 then 1 else 0)
  else if eqB op ⟨#[111, 114]⟩ = true then (if a = 1 ∧ b = 1 then 1 else 0)
  else if eqB op ⟨#[109, 105, 110]⟩ = true then (if a = b ∧ 2 ≤ a ∧ a ≤ 5 then a else 0)
  else if eqB op ⟨#[109, 97, 120]⟩ = true then (if a = b ∧ 2 ≤ a ∧ a ≤ 5 then a else 0)
  else 0
set_option maxRecDepth 100000 in
set_option maxHeartbeats 4000000 in
theorem bin_0 (a b : Int) (w : World) : Calls Tryd.prog 18 #[.string ⟨#[43]⟩, .int .i64 a, .int .i64 b] w fun e w' => e = .returned (.int .i64 (binK ⟨#[43]⟩ a b)) ∧ w = w' := by
  rw [show binK ⟨#[43]⟩ a b = (if (a = b ∧ 2 ≤ a ∧ a ≤ 4) ∨ (a = 5 ∧ b = 2) then a else 0) from rfl]
  go_enter Tryd.func18, Tryd.ntmps18
  go_wp2_with fail
  all_goals go_ret
  all_goals refine ⟨congrArg (fun b => Ending.returned (Value.int .i64 b)) ?_, rfl⟩
  all_goals first
    | omega
    | (simp_all; done)
    | (simp_all; omega)
    | (simp_all <;> omega)
set_option maxRecDepth 100000 in
set_option maxHeartbeats 4000000 in
theorem bin_1 (a b : Int) (w : World) : Calls Tryd.prog 18 #[.string ⟨#[45]⟩, .int .i64 a, .int .i64 b] w fun e w' => e = .returned (.int .i64 (binK ⟨#[45]⟩ a b)) ∧ w = w' := by
  rw [show binK ⟨#[45]⟩ a b = (if (a = b ∧ 2 ≤ a ∧ a ≤ 4) ∨ (a = 5 ∧ b = 2) then a else if a = 5 ∧ b = 5 then 2 else 0) from rfl]
  go_enter Tryd.func18, Tryd.ntmps18
  go_wp2_with fail
  all_goals go_ret
  all_goals refine ⟨congrArg (fun b => Ending.returned (Value.int .i64 b)) ?_, rfl⟩
  all_goals first
    | omega
    | (simp_all; done)
    | (simp_all; omega)
    | (simp_all <;> omega)
set_option maxRecDepth 100000 in
set_option maxHeartbeats 4000000 in
theorem bin_2 (a b : Int) (w : World) : Calls Tryd.prog 18 #[.string ⟨#[42]⟩, .int .i64 a, .int .i64 b] w fun e w' => e = .returned (.int .i64 (binK ⟨#[42]⟩ a b)) ∧ w = w' := by
  rw [show binK ⟨#[42]⟩ a b = (if a > b then (if b = 2 ∧ 2 ≤ a ∧ a ≤ 4 then a else if b = 3 ∧ a = 4 then 3 else 0) else (if a = 2 ∧ 2 ≤ b ∧ b ≤ 4 then b else if a = 3 ∧ b = 4 then 3 else 0)) from rfl]
  go_enter Tryd.func18, Tryd.ntmps18
  go_wp2_with fail
  all_goals go_ret
  all_goals refine ⟨congrArg (fun b => Ending.returned (Value.int .i64 b)) ?_, rfl⟩
  all_goals first
    | omega
    | (simp_all; done)
    | (simp_all; omega)
    | (simp_all <;> omega)
set_option maxRecDepth 100000 in
set_option maxHeartbeats 4000000 in
theorem bin_3 (a b : Int) (w : World) : Calls Tryd.prog 18 #[.string ⟨#[47]⟩, .int .i64 a, .int .i64 b] w fun e w' => e = .returned (.int .i64 (binK ⟨#[47]⟩ a b)) ∧ w = w' := by
  rw [show binK ⟨#[47]⟩ a b = (if b = 2 ∧ (a = 2 ∨ a = 3) then a else if a = 3 ∧ b = 3 then 4 else 0) from rfl]
  go_enter Tryd.func18, Tryd.ntmps18
  go_wp2_with fail
  all_goals go_ret
  all_goals refine ⟨congrArg (fun b => Ending.returned (Value.int .i64 b)) ?_, rfl⟩
  all_goals first
    | omega
    | (simp_all; done)
    | (simp_all; omega)
    | (simp_all <;> omega)
set_option maxRecDepth 100000 in
set_option maxHeartbeats 4000000 in
theorem bin_4 (a b : Int) (w : World) : Calls Tryd.prog 18 #[.string ⟨#[60]⟩, .int .i64 a, .int .i64 b] w fun e w' => e = .returned (.int .i64 (binK ⟨#[60]⟩ a b)) ∧ w = w' := by
  rw [show binK ⟨#[60]⟩ a b = (if a = b ∧ 2 ≤ a ∧ a ≤ 5 then 1 else 0) from rfl]
  go_enter Tryd.func18, Tryd.ntmps18
  go_wp2_with fail
  all_goals go_ret
  all_goals refine ⟨congrArg (fun b => Ending.returned (Value.int .i64 b)) ?_, rfl⟩
  all_goals first
    | omega
    | (simp_all; done)
    | (simp_all; omega)
    | (simp_all <;> omega)
set_option maxRecDepth 100000 in
set_option maxHeartbeats 4000000 in
theorem bin_5 (a b : Int) (w : World) : Calls Tryd.prog 18 #[.string ⟨#[60, 61]⟩, .int .i64 a, .int .i64 b] w fun e w' => e = .returned (.int .i64 (binK ⟨#[60, 61]⟩ a b)) ∧ w = w' := by
  rw [show binK ⟨#[60, 61]⟩ a b = (if a = b ∧ 2 ≤ a ∧ a ≤ 5 then 1 else 0) from rfl]
  go_enter Tryd.func18, Tryd.ntmps18
  go_wp2_with fail
  all_goals go_ret
  all_goals refine ⟨congrArg (fun b => Ending.returned (Value.int .i64 b)) ?_, rfl⟩
  all_goals first
    | omega
    | (simp_all; done)
    | (simp_all; omega)
    | (simp_all <;> omega)
set_option maxRecDepth 100000 in
set_option maxHeartbeats 4000000 in
theorem bin_6 (a b : Int) (w : World) : Calls Tryd.prog 18 #[.string ⟨#[62]⟩, .int .i64 a, .int .i64 b] w fun e w' => e = .returned (.int .i64 (binK ⟨#[62]⟩ a b)) ∧ w = w' := by
  rw [show binK ⟨#[62]⟩ a b = (if a = b ∧ 2 ≤ a ∧ a ≤ 5 then 1 else 0) from rfl]
  go_enter Tryd.func18, Tryd.ntmps18
  go_wp2_with fail
  all_goals go_ret
  all_goals refine ⟨congrArg (fun b => Ending.returned (Value.int .i64 b)) ?_, rfl⟩
  all_goals first
    | omega
    | (simp_all; done)
    | (simp_all; omega)
    | (simp_all <;> omega)
set_option maxRecDepth 100000 in
set_option maxHeartbeats 4000000 in
theorem bin_7 (a b : Int) (w : World) : Calls Tryd.prog 18 #[.string ⟨#[62, 61]⟩, .int .i64 a, .int .i64 b] w fun e w' => e = .returned (.int .i64 (binK ⟨#[62, 61]⟩ a b)) ∧ w = w' := by
  rw [show binK ⟨#[62, 61]⟩ a b = (if a = b ∧ 2 ≤ a ∧ a ≤ 5 then 1 else 0) from rfl]
  go_enter Tryd.func18, Tryd.ntmps18
  go_wp2_with fail
  all_goals go_ret
  all_goals refine ⟨congrArg (fun b => Ending.returned (Value.int .i64 b)) ?_, rfl⟩
  all_goals first
    | omega
    | (simp_all; done)
    | (simp_all; omega)
    | (simp_all <;> omega)
set_option maxRecDepth 100000 in
set_option maxHeartbeats 4000000 in
theorem bin_8 (a b : Int) (w : World) : Calls Tryd.prog 18 #[.string ⟨#[61, 61]⟩, .int .i64 a, .int .i64 b] w fun e w' => e = .returned (.int .i64 (binK ⟨#[61, 61]⟩ a b)) ∧ w = w' := by
  rw [show binK ⟨#[61, 61]⟩ a b = (if a = b ∧ 1 ≤ a ∧ a ≤ 5 then 1 else 0) from rfl]
  go_enter Tryd.func18, Tryd.ntmps18
  go_wp2_with fail
  all_goals go_ret
  all_goals refine ⟨congrArg (fun b => Ending.returned (Value.int .i64 b)) ?_, rfl⟩
  all_goals first
    | omega
    | (simp_all; done)
    | (simp_all; omega)
    | (simp_all <;> omega)
set_option maxRecDepth 100000 in
set_option maxHeartbeats 4000000 in
theorem bin_9 (a b : Int) (w : World) : Calls Tryd.prog 18 #[.string ⟨#[33, 61]⟩, .int .i64 a, .int .i64 b] w fun e w' => e = .returned (.int .i64 (binK ⟨#[33, 61]⟩ a b)) ∧ w = w' := by
  rw [show binK ⟨#[33, 61]⟩ a b = (if a = b ∧ 1 ≤ a ∧ a ≤ 5 then 1 else 0) from rfl]
  go_enter Tryd.func18, Tryd.ntmps18
  go_wp2_with fail
  all_goals go_ret
  all_goals refine ⟨congrArg (fun b => Ending.returned (Value.int .i64 b)) ?_, rfl⟩
  all_goals first
    | omega
    | (simp_all; done)
    | (simp_all; omega)
    | (simp_all <;> omega)
set_option maxRecDepth 100000 in
set_option maxHeartbeats 4000000 in
theorem bin_10 (a b : Int) (w : World) : Calls Tryd.prog 18 #[.string ⟨#[97, 110, 100]⟩, .int .i64 a, .int .i64 b] w fun e w' => e = .returned (.int .i64 (binK ⟨#[97, 110, 100]⟩ a b)) ∧ w = w' := by
  rw [show binK ⟨#[97, 110, 100]⟩ a b = (if a = 1 ∧ b = 1 then 1 else 0) from rfl]
  go_enter Tryd.func18, Tryd.ntmps18
  go_wp2_with fail
  all_goals go_ret
  all_goals refine ⟨congrArg (fun b => Ending.returned (Value.int .i64 b)) ?_, rfl⟩
  all_goals first
    | omega
    | (simp_all; done)
    | (simp_all; omega)
    | (simp_all <;> omega)
set_option maxRecDepth 100000 in
set_option maxHeartbeats 4000000 in
theorem bin_11 (a b : Int) (w : World) : Calls Tryd.prog 18 #[.string ⟨#[111, 114]⟩, .int .i64 a, .int .i64 b] w fun e w' => e = .returned (.int .i64 (binK ⟨#[111, 114]⟩ a b)) ∧ w = w' := by
  rw [show binK ⟨#[111, 114]⟩ a b = (if a = 1 ∧ b = 1 then 1 else 0) from rfl]
  go_enter Tryd.func18, Tryd.ntmps18
  go_wp2_with fail
  all_goals go_ret
  all_goals refine ⟨congrArg (fun b => Ending.returned (Value.int .i64 b)) ?_, rfl⟩
  all_goals first
    | omega
    | (simp_all; done)
    | (simp_all; omega)
    | (simp_all <;> omega)
set_option maxRecDepth 100000 in
set_option maxHeartbeats 4000000 in
theorem bin_12 (a b : Int) (w : World) : Calls Tryd.prog 18 #[.string ⟨#[109, 105, 110]⟩, .int .i64 a, .int .i64 b] w fun e w' => e = .returned (.int .i64 (binK ⟨#[109, 105, 110]⟩ a b)) ∧ w = w' := by
  rw [show binK ⟨#[109, 105, 110]⟩ a b = (if a = b ∧ 2 ≤ a ∧ a ≤ 5 then a else 0) from rfl]
  go_enter Tryd.func18, Tryd.ntmps18
  go_wp2_with fail
  all_goals go_ret
  all_goals refine ⟨congrArg (fun b => Ending.returned (Value.int .i64 b)) ?_, rfl⟩
  all_goals first
    | omega
    | (simp_all; done)
    | (simp_all; omega)
    | (simp_all <;> omega)
set_option maxRecDepth 100000 in
set_option maxHeartbeats 4000000 in
theorem bin_13 (a b : Int) (w : World) : Calls Tryd.prog 18 #[.string ⟨#[109, 97, 120]⟩, .int .i64 a, .int .i64 b] w fun e w' => e = .returned (.int .i64 (binK ⟨#[109, 97, 120]⟩ a b)) ∧ w = w' := by
  rw [show binK ⟨#[109, 97, 120]⟩ a b = (if a = b ∧ 2 ≤ a ∧ a ≤ 5 then a else 0) from rfl]
  go_enter Tryd.func18, Tryd.ntmps18
  go_wp2_with fail
  all_goals go_ret
  all_goals refine ⟨congrArg (fun b => Ending.returned (Value.int .i64 b)) ?_, rfl⟩
  all_goals first
    | omega
    | (simp_all; done)
    | (simp_all; omega)
    | (simp_all <;> omega)
def ops14 : List ByteArray := [⟨#[43]⟩, ⟨#[45]⟩, ⟨#[42]⟩, ⟨#[47]⟩, ⟨#[60]⟩, ⟨#[60, 61]⟩, ⟨#[62]⟩, ⟨#[62, 61]⟩, ⟨#[61, 61]⟩, ⟨#[33, 61]⟩, ⟨#[97, 110, 100]⟩, ⟨#[111, 114]⟩, ⟨#[109, 105, 110]⟩, ⟨#[109, 97, 120]⟩]
theorem binary_any (op : ByteArray) (ho : op ∈ ops14) (a b : Int) (w : World) : Calls Tryd.prog 18 #[.string op, .int .i64 a, .int .i64 b] w fun e w' => e = .returned (.int .i64 (binK op a b)) ∧ w = w' := by
  simp only [ops14, List.mem_cons, List.not_mem_nil, or_false] at ho
  rcases ho with rfl | rfl | rfl | rfl | rfl | rfl | rfl | rfl | rfl | rfl | rfl | rfl | rfl | rfl
  · exact bin_0 a b w
  · exact bin_1 a b w
  · exact bin_2 a b w
  · exact bin_3 a b w
  · exact bin_4 a b w
  · exact bin_5 a b w
  · exact bin_6 a b w
  · exact bin_7 a b w
  · exact bin_8 a b w
  · exact bin_9 a b w
  · exact bin_10 a b w
  · exact bin_11 a b w
  · exact bin_12 a b w
  · exact bin_13 a b w
end Go.Proofs.YtonmdlhlkacppaaDoor

namespace Go.Proofs.YtonmdlhlkacppaaDoor
open Go.RowKit
set_option linter.unusedVariables false
set_option linter.unusedSimpArgs false

theorem Below.put6Y {a b : World} {q : Nat} {B : Nat} (h : Below B a b) (hq : B ≤ q) (v0 v1 v2 v3 v4 v5 : Value) : Below B a ((((((b.setCell ⟨q, 0, none⟩ v0).setCell ⟨q, 1, none⟩ v1).setCell ⟨q, 2, none⟩ v2).setCell ⟨q, 3, none⟩ v3).setCell ⟨q, 4, none⟩ v4).setCell ⟨q, 5, none⟩ v5) :=
  (((((h.setCell (p := ⟨q, 0, none⟩) hq v0).setCell (p := ⟨q, 1, none⟩) hq v1).setCell (p := ⟨q, 2, none⟩) hq v2).setCell (p := ⟨q, 3, none⟩) hq v3).setCell (p := ⟨q, 4, none⟩) hq v4).setCell (p := ⟨q, 5, none⟩) hq v5
theorem Nd.lenY {w : World} {S : Nat → Prop} {v : Value} {ts : List Tr} (h : Nd w S v ts) : ∃ a c, v = .slice a ts.length c := by
  cases h with
  | nil => exact ⟨_, _, rfl⟩
  | row g c ts sl hs h0 hc hk => exact ⟨_, _, rfl⟩
theorem Nd.atY {w : World} {S : Nat → Prop} {v : Value} {ts : List Tr} (h : Nd w S v ts) (i : Nat) (t : Tr) (hi : ts[i]? = some t) : ∃ (g c : Nat) (s : Value), v = .slice (some ⟨g, 0, none⟩) ts.length c ∧ NC w g (i * 6) t s ∧ Nd w S s t.kids := by
  cases h with
  | nil => simp at hi
  | row g c ts sl hs h0 hc hk => exact ⟨g, c, sl i, rfl, hc i t hi, hk i t hi⟩
theorem Nd.gwY {w w' : World} {S : Nat → Prop} {v : Value} {ts : List Tr} (h : Nd w S v ts) (q : Below w.heap.size w w') : Nd w' S v ts := h.keep fun g s l => ⟨s, q.block g l⟩
def dcl (ks : List Tr) (op nm : ByteArray) : Option Tr := ks.find? (fun k => eqB k.op op && eqB k.name nm)
/-- What decl leaves: the first declaration of an op and a name. -/
def DcP (ks : List Tr) (op nm : ByteArray) (S : Nat → Prop) (w : World) (e : Ending) (w' : World) : Prop := Below w.heap.size w w' ∧ ∃ (ka : Option Addr) (km kc : Nat), e = .returned (.tuple #[.agg #[.string ((dcl ks op nm).getD Tr.zero).op, .string ((dcl ks op nm).getD Tr.zero).name, .int .i64 (((dcl ks op nm).getD Tr.zero).kind : Nat), .int .i64 ((dcl ks op nm).getD Tr.zero).n, .int .i64 (((dcl ks op nm).getD Tr.zero).pl : Nat), .slice ka km kc], .bool (dcl ks op nm).isSome]) ∧ Nd w' S (.slice ka km kc) ((dcl ks op nm).getD Tr.zero).kids
set_option maxRecDepth 100000 in
set_option maxHeartbeats 4000000 in
theorem decl11_any (t : Tr) (op nm : ByteArray) (w : World) (S : Nat → Prop) (v : Value) (hl : t.kids.length ≤ 10000) (h : Nd w S v t.kids) :
    Calls Tryd.prog 49 #[.agg #[.string t.op, .string t.name, .int .i64 (t.kind : Nat), .int .i64 t.n, .int .i64 (t.pl : Nat), v], .string op, .string nm] w fun e w' => DcP t.kids op nm S w e w' := by
  obtain ⟨sa, sc, rfl⟩ := h.lenY
  have A1 := hid (show Below w.heap.size w ((w.alloc (.cells #[.string t.op, .string t.name, .int .i64 (t.kind : Nat), .int .i64 t.n, .int .i64 (t.pl : Nat), .slice sa t.kids.length sc] 29)).alloc (.cells #[.string ⟨#[]⟩, .string ⟨#[]⟩, .int .i64 0, .int .i64 0, .int .i64 0, .slice none 0 0] 29)) from ((Below.refl _ _).alloc (Nat.le_refl _) _).alloc (by simp) _)
  have X1 := hid (show B6 ((w.alloc (.cells #[.string t.op, .string t.name, .int .i64 (t.kind : Nat), .int .i64 t.n, .int .i64 (t.pl : Nat), .slice sa t.kids.length sc] 29)).alloc (.cells #[.string ⟨#[]⟩, .string ⟨#[]⟩, .int .i64 0, .int .i64 0, .int .i64 0, .slice none 0 0] 29)) w.heap.size (.string t.op) (.string t.name) (.int .i64 (t.kind : Nat)) (.int .i64 t.n) (.int .i64 (t.pl : Nat)) (.slice sa t.kids.length sc) from (B6.new w 29 _ _ _ _ _ _).next ((Below.refl _ _).alloc (Nat.le_refl _) _))
  have HB := hid (show B6 ((w.alloc (.cells #[.string t.op, .string t.name, .int .i64 (t.kind : Nat), .int .i64 t.n, .int .i64 (t.pl : Nat), .slice sa t.kids.length sc] 29)).alloc (.cells #[.string ⟨#[]⟩, .string ⟨#[]⟩, .int .i64 0, .int .i64 0, .int .i64 0, .slice none 0 0] 29)) (w.heap.size + 1) (.string ⟨#[]⟩) (.string ⟨#[]⟩) (.int .i64 0) (.int .i64 0) (.int .i64 0) (.slice none 0 0) from by have := B6.new (w.alloc (.cells #[.string t.op, .string t.name, .int .i64 (t.kind : Nat), .int .i64 t.n, .int .i64 (t.pl : Nat), .slice sa t.kids.length sc] 29)) 29 (.string ⟨#[]⟩) (.string ⟨#[]⟩) (.int .i64 0) (.int .i64 0) (.int .i64 0) (.slice none 0 0); rw [show (w.alloc (.cells #[.string t.op, .string t.name, .int .i64 (t.kind : Nat), .int .i64 t.n, .int .i64 (t.pl : Nat), .slice sa t.kids.length sc] 29)).heap.size = w.heap.size + 1 by simp] at this; exact this)
  have ND := hid (h.keep (S' := fun g => S g ∧ g < w.heap.size) fun g s l => ⟨⟨s, l⟩, A1.out.block g l⟩)
  have KL9 : (t.kids.length : Int) ≤ 10000 := by omega
  obtain ⟨D, hD⟩ : ∃ D, dcl t.kids op nm = D := ⟨_, rfl⟩
  have DH := hid hD
  unfold DcP
  rw [hD]
  clear h hl hD
  go_enter Tryd.func49, Tryd.ntmps49
  go_upto_region 1 with fail
  generalize World.alloc (World.alloc w _) _ = w1 at *
  have q1 : w.heap.size < w.heap.size + 1 := by omega
  generalize w.heap.size + 1 = r at *
  obtain ⟨x0, x1, x2, x3, x4, x5, xz⟩ := X1.out
  clear x0 x1 x2 x3 x4 xz
  go_wp2_with fail
  go_loopg [8] (t.kids.length) (fun g iv wr => ∃ i : Nat, i ≤ t.kids.length ∧ g = t.kids.length - i ∧ iv = .int .i64 (i : Nat) ∧ w1 = wr ∧ Hid (dcl (t.kids.drop i) op nm = D))
  case atStart => exact ⟨0, Nat.zero_le _, rfl, rfl, rfl, DH.out⟩
  case round =>
    obtain ⟨i, hi, rfl, rfl, rfl, EH⟩ := hrel
    by_cases q : i < t.kids.length
    · have q' : (i : Int) < (t.kids.length : Int) := by omega
      obtain ⟨k, hk⟩ : ∃ k, t.kids[i]? = some k := ⟨_, List.getElem?_eq_getElem q⟩
      obtain ⟨g, c, s, ea, n, m⟩ := ND.out.atY i k hk
      obtain ⟨ka, km, kc, rfl⟩ := m.slice
      injection ea with ea _ ec
      subst ea ec
      obtain ⟨n0, n1, n2, n3, n4, n5⟩ := n
      have KD := hid m
      have SE := hid (show (if (eqB k.op op && eqB k.name nm) = true then some k else dcl (t.kids.drop (i + 1)) op nm) = D from by
        rw [← EH.out, List.drop_eq_getElem_cons q]
        rw [List.getElem?_eq_getElem q] at hk
        injection hk with hk
        rw [hk]
        unfold dcl
        rw [List.find?_cons]
        cases (eqB k.op op && eqB k.name nm) <;> rfl)
      clear m hk EH
      cases y1 : eqB k.op op with
      | false =>
        have z1 : (k.op.toList == op.toList) = false := (eqB_is _ _).trans y1
        have FF := hid (show dcl (t.kids.drop (i + 1)) op nm = D from by rw [← SE.out, y1]; rfl)
        clear y1
        go_wp2_with fail
        go_roundg (t.kids.length - (i + 1))
        case measure => omega
        case rel => exact ⟨i + 1, by omega, rfl, by rw [Int.natCast_add]; rfl, rfl, FF.out⟩
      | true =>
        have z1 : (k.op.toList == op.toList) = true := (eqB_is _ _).trans y1
        cases y2 : eqB k.name nm with
        | false =>
          have z2 : (k.name.toList == nm.toList) = false := (eqB_is _ _).trans y2
          have FF := hid (show dcl (t.kids.drop (i + 1)) op nm = D from by rw [← SE.out, y1, y2]; rfl)
          clear y1 y2
          go_wp2_with fail
          go_roundg (t.kids.length - (i + 1))
          case measure => omega
          case rel => exact ⟨i + 1, by omega, rfl, by rw [Int.natCast_add]; rfl, rfl, FF.out⟩
        | true =>
          have z2 : (k.name.toList == nm.toList) = true := (eqB_is _ _).trans y2
          have FF : D = some k := by rw [← SE.out, y1, y2]; rfl
          subst FF
          clear y1 y2
          go_upto_region 5 with fail
          obtain ⟨h0, h1, h2, h3, h4, h5, hz⟩ := HB.out
          have BF := hid (HB.out.sets (.string k.op) (.string k.name) (.int .i64 (k.kind : Nat)) (.int .i64 k.n) (.int .i64 (k.pl : Nat)) (.slice ka km kc))
          have BL := hid (Below.put6Y A1.out (q := r) (by omega) (.string k.op) (.string k.name) (.int .i64 (k.kind : Nat)) (.int .i64 k.n) (.int .i64 (k.pl : Nat)) (.slice ka km kc))
          have NF := hid (show Nd _ S (.slice ka km kc) k.kids from (KD.out.put6 (q := r) (fun e => by have := e.2; omega) (.string k.op) (.string k.name) (.int .i64 (k.kind : Nat)) (.int .i64 k.n) (.int .i64 (k.pl : Nat)) (.slice ka km kc)).keep fun g s l => ⟨s.1, rfl⟩)
          go_wp2_with fail
          generalize World.setCell _ ⟨r, 5, none⟩ _ = wf at *
          obtain ⟨q0, q1, q2, q3, q4, q5, _⟩ := BF.out
          exact bodyPost_ret (v := .tuple #[.agg #[.string k.op, .string k.name, .int .i64 (k.kind : Nat), .int .i64 k.n, .int .i64 (k.pl : Nat), .slice ka km kc], .bool true]) (by simp [results, Tryd.results49, go_sem, q0, q1, q2, q3, q4, q5]) rfl ⟨BL.out, ka, km, kc, rfl, NF.out⟩
    · have q' : ¬ (i : Int) < (t.kids.length : Int) := by omega
      have FF : D = none := by rw [← EH.out, List.drop_eq_nil_of_le (by omega)]; rfl
      subst FF
      go_upto_region 6 with fail
      obtain ⟨h0, h1, h2, h3, h4, h5, hz⟩ := HB.out
      have BF := hid (HB.out.sets (.string ⟨#[]⟩) (.string ⟨#[]⟩) (.int .i64 0) (.int .i64 0) (.int .i64 0) (.slice none 0 0))
      have BL := hid (Below.put6Y A1.out (q := r) (by omega) (.string ⟨#[]⟩) (.string ⟨#[]⟩) (.int .i64 0) (.int .i64 0) (.int .i64 0) (.slice none 0 0))
      go_wp2_with fail
      generalize World.setCell _ ⟨r, 5, none⟩ _ = wf at *
      obtain ⟨q0, q1, q2, q3, q4, q5, _⟩ := BF.out
      exact bodyPost_ret (v := .tuple #[.agg #[.string ⟨#[]⟩, .string ⟨#[]⟩, .int .i64 0, .int .i64 0, .int .i64 0, .slice none 0 0], .bool false]) (by simp [results, Tryd.results49, go_sem, q0, q1, q2, q3, q4, q5]) rfl ⟨BL.out, none, 0, 0, rfl, .nil⟩
end Go.Proofs.YtonmdlhlkacppaaDoor

namespace Go.Proofs.YtonmdlhlkacppaaDoor
open Go.RowKit
set_option linter.unusedVariables false
set_option linter.unusedSimpArgs false

/-- A map's block: its keys are names. -/
structure MapS (w : World) (b : Nat) (l : List (ByteArray × Value)) : Prop where
  ex : ∃ es c, w.heap[b]? = some (.map es c) ∧ (es.toList.map fun e => (e.key, e.val)) = l.map fun x => (Value.string x.1, x.2)
theorem MapS.lt {w : World} {b : Nat} {l : List (ByteArray × Value)} (h : MapS w b l) : b < w.heap.size := by
  obtain ⟨es, c, h1, _⟩ := h.ex
  exact (Array.getElem?_eq_some_iff.1 h1).1
theorem MapS.kept {w w' : World} {b : Nat} {l : List (ByteArray × Value)} (h : MapS w b l) (k : w'.heap[b]? = w.heap[b]?) : MapS w' b l := by
  obtain ⟨es, c, h1, h2⟩ := h.ex
  exact ⟨es, c, by rw [k]; exact h1, h2⟩
theorem MapS.new (w : World) : MapS (w.alloc (.map #[] 0)) w.heap.size [] := ⟨#[], 0, heap_alloc_new w _, rfl⟩
/-- The value at a name. -/
def atM : List (ByteArray × Value) → ByteArray → Option Value
  | [], _ => none
  | x :: l, k => if k = x.1 then some x.2 else atM l k
/-- A store. -/
def setM : List (ByteArray × Value) → ByteArray → Value → List (ByteArray × Value)
  | [], k, v => [(k, v)]
  | x :: l, k, v => if k = x.1 then (k, v) :: l else x :: setM l k v
theorem at_set (l : List (ByteArray × Value)) (k : ByteArray) (v : Value) (j : ByteArray) : atM (setM l k v) j = if j = k then some v else atM l j := by
  induction l with
  | nil => rfl
  | cons x l ih =>
    unfold setM
    by_cases c : k = x.1
    · rw [if_pos c]
      unfold atM
      by_cases d : j = k
      · rw [if_pos d, if_pos d]
      · rw [if_neg d, if_neg d, if_neg (by rw [← c]; exact d)]
    · rw [if_neg c]
      unfold atM
      rw [ih]
      by_cases d : j = x.1
      · rw [if_pos d, if_pos d, if_neg (by rw [d]; exact fun e => c e.symm)]
      · rw [if_neg d, if_neg d]
theorem findNow_atM (k : ByteArray) : ∀ (l : List (ByteArray × Value)) (es : List MapEntry) (i : Nat), (es.map fun e => (e.key, e.val)) = (l.map fun x => (Value.string x.1, x.2)) →
    ∃ j, Instr.findNow .string (.string k) es i = some ((atM l k).map fun v => (i + j, v)) ∧ ((atM l k).isSome → ∃ e, es[j]? = some e ∧ e.key = .string k ∧ es.map (fun e => (e.key, e.val)) = l.map (fun x => (Value.string x.1, x.2)) ∧ ∀ v, ((es.modify j fun e => { e with key := .string k, val := v }).map fun e => (e.key, e.val)) = (setM l k v).map fun x => (Value.string x.1, x.2)) ∧ ((atM l k) = none → ∀ v, setM l k v = l ++ [(k, v)])
  | [], es, i, h => by
    have e : es = [] := by simpa using h
    subst e
    exact ⟨0, rfl, fun q => (by cases q), fun _ v => rfl⟩
  | x :: l, es, i, h => by
    cases es with
    | nil => simp at h
    | cons e es =>
      simp only [List.map_cons, List.cons.injEq, Prod.mk.injEq] at h
      obtain ⟨⟨hk, hv⟩, ht⟩ := h
      by_cases c : k = x.1
      · have cz : (k == x.1) = true := (Go.MapKept.bytes_beq _ _).2 c
        refine ⟨0, ?_, fun _ => ⟨e, rfl, by rw [hk, c], ?_, fun v => ?_⟩, fun q => ?_⟩
        · unfold Instr.findNow atM
          rw [if_pos c, hk]
          simp only [Instr.sameNow, cz, hv]
          rfl
        · simp [hk, hv, ht]
        · unfold setM
          rw [if_pos c]
          simp [ht]
        · unfold atM at q
          rw [if_pos c] at q
          cases q
      · obtain ⟨j, h1, h2, h3⟩ := findNow_atM k l es (i + 1) ht
        have cz : (k == x.1) = false := by
          cases y : (k == x.1) with
          | false => rfl
          | true => exact absurd ((Go.MapKept.bytes_beq _ _).1 y) c
        refine ⟨j + 1, ?_, fun q => ?_, fun q v => ?_⟩
        · unfold Instr.findNow atM
          rw [if_neg c, hk]
          simp only [Instr.sameNow, cz, if_true]
          rw [h1, show i + 1 + j = i + (j + 1) by omega]
        · unfold atM at q
          rw [if_neg c] at q
          obtain ⟨e', g1, g2, g3, g4⟩ := h2 q
          refine ⟨e', by simpa using g1, g2, by simp [hk, hv, g3], fun v => ?_⟩
          unfold setM
          rw [if_neg c]
          simp [hk, hv, g4 v]
        · unfold atM at q
          rw [if_neg c] at q
          unfold setM
          rw [if_neg c, h3 q v]
          rfl
/-- 'v, ok := m[k]'. -/
theorem lookM2 {T E : TypeId} {z : Value} (w : World) (b : Nat) (k : ByteArray) (l : List (ByteArray × Value)) (h : MapS w b l) (ht : Tryd.prog.underlying T = some (.map 9 E)) (hz : ∀ w, (zeroValue E).run Tryd.prog w = .ok z w) :
    (Instr.lookup T (.map (some b)) (.string k) true).run Tryd.prog w = .ok (.tuple #[(atM l k).getD z, .bool (atM l k).isSome]) w := by
  obtain ⟨es, c, h1, h2⟩ := h.ex
  obtain ⟨j, f1, _, _⟩ := findNow_atM k l es.toList 0 h2
  have hu : Tryd.prog.underlying 9 = some .string := Tryd.underlying9
  have ck : (Instr.checkKey es.isEmpty 10000 9 (.string k)).run Tryd.prog w = .ok () w := Go.MapKept.run_checkKey hu (by simp [Go.MapKept.IsKey]) _ 9999
  have g : (getObj b).run Tryd.prog w = .ok (.map es c) w := Go.MapKept.run_getObj_map h1
  have fk : (Instr.findKey 9 (.string k) es.toList).run Tryd.prog w = .ok ((atM l k).map fun v => (0 + j, v)) w := Go.MapKept.run_findKey hu f1
  cases hv : atM l k with
  | none =>
    rw [hv] at fk
    simp [Instr.lookup, run_underlying ht, g, ck, fk, hz]
  | some v =>
    rw [hv] at fk
    simp [Instr.lookup, run_underlying ht, g, ck, fk]
/-- 'm[k]'. -/
theorem lookM1 {T E : TypeId} {z : Value} (w : World) (b : Nat) (k : ByteArray) (l : List (ByteArray × Value)) (h : MapS w b l) (ht : Tryd.prog.underlying T = some (.map 9 E)) (hz : ∀ w, (zeroValue E).run Tryd.prog w = .ok z w) :
    (Instr.lookup T (.map (some b)) (.string k) false).run Tryd.prog w = .ok ((atM l k).getD z) w := by
  obtain ⟨es, c, h1, h2⟩ := h.ex
  obtain ⟨j, f1, _, _⟩ := findNow_atM k l es.toList 0 h2
  have hu : Tryd.prog.underlying 9 = some .string := Tryd.underlying9
  have ck : (Instr.checkKey es.isEmpty 10000 9 (.string k)).run Tryd.prog w = .ok () w := Go.MapKept.run_checkKey hu (by simp [Go.MapKept.IsKey]) _ 9999
  have g : (getObj b).run Tryd.prog w = .ok (.map es c) w := Go.MapKept.run_getObj_map h1
  have fk : (Instr.findKey 9 (.string k) es.toList).run Tryd.prog w = .ok ((atM l k).map fun v => (0 + j, v)) w := Go.MapKept.run_findKey hu f1
  cases hv : atM l k with
  | none =>
    rw [hv] at fk
    simp [Instr.lookup, run_underlying ht, g, ck, fk, hz]
  | some v =>
    rw [hv] at fk
    simp [Instr.lookup, run_underlying ht, g, ck, fk]
/-- 'm[k] = v'. -/
theorem storeM {T E : TypeId} (w : World) (b : Nat) (k : ByteArray) (v : Value) (l : List (ByteArray × Value)) (h : MapS w b l) (ht : Tryd.prog.underlying T = some (.map 9 E)) :
    ∃ w', (Instr.mapUpdate T (.map (some b)) (.string k) v).run Tryd.prog w = .ok () w' ∧ MapS w' b (setM l k v) ∧ w.grownBy w' (some b) := by
  obtain ⟨es, c, h1, h2⟩ := h.ex
  obtain ⟨j, f1, f2, f3⟩ := findNow_atM k l es.toList 0 h2
  have bl := h.lt
  have hu : Tryd.prog.underlying 9 = some .string := Tryd.underlying9
  have ck : (Instr.checkKey false 10000 9 (.string k)).run Tryd.prog w = .ok () w := Go.MapKept.run_checkKey hu (by simp [Go.MapKept.IsKey]) _ 9999
  have g : (getObj b).run Tryd.prog w = .ok (.map es c) w := Go.MapKept.run_getObj_map h1
  have fk : (Instr.findKey 9 (.string k) es.toList).run Tryd.prog w = .ok ((atM l k).map fun v => (0 + j, v)) w := Go.MapKept.run_findKey hu f1
  have gb : ∀ o, w.grownBy { w with heap := w.heap.setIfInBounds b o } (some b) := fun o => ⟨rfl, rfl, rfl, by simp, fun i _ hi => by
    have : b ≠ i := fun e => hi (by rw [e])
    simp [Array.getElem?_setIfInBounds, this]⟩
  have hb : ∀ o, ({ w with heap := w.heap.setIfInBounds b o } : World).heap[b]? = some o := fun o => by simp [Array.getElem?_setIfInBounds, bl]
  cases hv : atM l k with
  | none =>
    rw [hv] at fk
    refine ⟨_, ?_, ⟨_, _, hb (.map (es.push { key := .string k, val := v, born := c }) (c + 1)), ?_⟩, gb _⟩
    · simp [Instr.mapUpdate, run_underlying ht, g, ck, fk, Go.MapKept.run_setObj_map _ h1]
    · rw [f3 hv v]
      simp [h2]
  | some u =>
    rw [hv] at fk
    obtain ⟨e, e1, e2, _, e4⟩ := f2 (by rw [hv]; rfl)
    have ej : es[j]? = some e := by rw [← Array.getElem?_toList]; exact e1
    have ks : (Instr.keyThatStays (.string k) (.string k)).run Tryd.prog w = .ok (.string k) w := Go.MapKept.run_keyThatStays (d := .string) trivial
    refine ⟨_, ?_, ⟨_, _, hb (.map (es.modify j fun e => { e with key := .string k, val := v }) c), ?_⟩, gb _⟩
    · simp [Instr.mapUpdate, run_underlying ht, g, ck, fk, ej, e2, ks, Go.MapKept.run_setObj_map _ h1]
    · rw [← e4 v]
      simp
theorem zKind (w : World) : (zeroValue 23).run Tryd.prog w = .ok (.int .i64 0) w := by kernel_rfl
theorem zInt (w : World) : (zeroValue 3).run Tryd.prog w = .ok (.int .i64 0) w := by kernel_rfl
theorem zNode (w : World) : (zeroValue 26).run Tryd.prog w = .ok (.agg #[.string ⟨#[]⟩, .string ⟨#[]⟩, .int .i64 0, .int .i64 0, .int .i64 0, .slice none 0 0]) w := by kernel_rfl
theorem umK : Tryd.prog.underlying 85 = some (.map 9 23) := Tryd.underlying85
theorem umI : Tryd.prog.underlying 82 = some (.map 9 3) := Tryd.underlying82
theorem umN : Tryd.prog.underlying 86 = some (.map 9 26) := Tryd.underlying86
end Go.Proofs.YtonmdlhlkacppaaDoor

namespace Go.Proofs.YtonmdlhlkacppaaDoor
open Go.RowKit
set_option linter.unusedVariables false
set_option linter.unusedSimpArgs false

/-- The kind, if it fits. -/
def onl (b : Bool) (k : Int) : Int := if b = true then k else 0
theorem only_any (b : Bool) (k : Int) (w : World) : Calls Tryd.prog 81 #[.bool b, .int .i64 k] w fun e w' => e = .returned (.int .i64 (onl b k)) ∧ w = w' := by
  cases b with
  | true =>
    show Calls _ _ _ _ fun e w' => e = .returned (.int .i64 k) ∧ w = w'
    go_enter Tryd.func81, Tryd.ntmps81
    go_wp2
    go_returns
    exact ⟨rfl, rfl⟩
  | false =>
    show Calls _ _ _ _ fun e w' => e = .returned (.int .i64 0) ∧ w = w'
    go_enter Tryd.func81, Tryd.ntmps81
    go_wp2
    go_returns
    exact ⟨rfl, rfl⟩
def amt (a : Int) : Bool := decide (2 ≤ a ∧ a ≤ 4)
def rnk (a : Int) : Bool := decide (2 ≤ a ∧ a ≤ 5)
def keyB (a : Int) : Bool := decide (a = 2 ∨ a = 3 ∨ a = 5)
theorem beqI (a b : Int) (h : a ≠ b) : (a == b) = false := by simpa using h
theorem amount_any (a : Int) (w : World) : Calls Tryd.prog 82 #[.int .i64 a] w fun e w' => e = .returned (.bool (amt a)) ∧ w = w' := by
  by_cases h2 : a = 2
  · subst h2
    show Calls _ _ _ _ fun e w' => e = .returned (.bool true) ∧ w = w'
    go_enter Tryd.func82, Tryd.ntmps82
    go_wp2
    go_returns
    exact ⟨rfl, rfl⟩
  by_cases h3 : a = 3
  · subst h3
    show Calls _ _ _ _ fun e w' => e = .returned (.bool true) ∧ w = w'
    go_enter Tryd.func82, Tryd.ntmps82
    go_wp2
    go_returns
    exact ⟨rfl, rfl⟩
  by_cases h4 : a = 4
  · subst h4
    show Calls _ _ _ _ fun e w' => e = .returned (.bool true) ∧ w = w'
    go_enter Tryd.func82, Tryd.ntmps82
    go_wp2
    go_returns
    exact ⟨rfl, rfl⟩
  rw [show amt a = false from by unfold amt; simp; omega]
  have e2 := beqI _ _ h2
  have e3 := beqI _ _ h3
  have e4 := beqI _ _ h4
  clear h2 h3 h4
  go_enter Tryd.func82, Tryd.ntmps82
  go_wp2
  go_returns
  exact ⟨rfl, rfl⟩
theorem isKey_any (a : Int) (w : World) : Calls Tryd.prog 43 #[.int .i64 a] w fun e w' => e = .returned (.bool (keyB a)) ∧ w = w' := by
  by_cases h2 : a = 2
  · subst h2
    show Calls _ _ _ _ fun e w' => e = .returned (.bool true) ∧ w = w'
    go_enter Tryd.func43, Tryd.ntmps43
    go_wp2
    go_returns
    exact ⟨rfl, rfl⟩
  by_cases h3 : a = 3
  · subst h3
    show Calls _ _ _ _ fun e w' => e = .returned (.bool true) ∧ w = w'
    go_enter Tryd.func43, Tryd.ntmps43
    go_wp2
    go_returns
    exact ⟨rfl, rfl⟩
  by_cases h4 : a = 5
  · subst h4
    show Calls _ _ _ _ fun e w' => e = .returned (.bool true) ∧ w = w'
    go_enter Tryd.func43, Tryd.ntmps43
    go_wp2
    go_returns
    exact ⟨rfl, rfl⟩
  rw [show keyB a = false from by unfold keyB; simp; omega]
  have e2 := beqI _ _ h2
  have e3 := beqI _ _ h3
  have e4 := beqI _ _ h4
  clear h2 h3 h4
  go_enter Tryd.func43, Tryd.ntmps43
  go_wp2
  go_returns
  exact ⟨rfl, rfl⟩
theorem ranked_any (a : Int) (w : World) : Calls Tryd.prog 84 #[.int .i64 a] w fun e w' => e = .returned (.bool (rnk a)) ∧ w = w' := by
  have K := hid (amount_any a)
  by_cases h5 : a = 5
  · subst h5
    show Calls _ _ _ _ fun e w' => e = .returned (.bool true) ∧ w = w'
    rw [show amt 5 = false from rfl] at K
    go_enter Tryd.func84, Tryd.ntmps84
    go_wp2_with (go_at_call 82; with_reducible refine Calls.mono (K.out _) ?_; rintro e w2 ⟨rfl, rfl⟩)
    go_returns
    exact ⟨rfl, rfl⟩
  have e5 := beqI _ _ h5
  cases q : amt a with
  | true =>
    rw [q] at K
    rw [show rnk a = true from by unfold rnk; unfold amt at q; simp at q ⊢; omega]
    clear q h5
    go_enter Tryd.func84, Tryd.ntmps84
    go_wp2_with (go_at_call 82; with_reducible refine Calls.mono (K.out _) ?_; rintro e w2 ⟨rfl, rfl⟩)
    go_returns
    exact ⟨rfl, rfl⟩
  | false =>
    rw [q] at K
    rw [show rnk a = false from by unfold rnk; unfold amt at q; simp at q ⊢; omega]
    clear q h5
    go_enter Tryd.func84, Tryd.ntmps84
    go_wp2_with (go_at_call 82; with_reducible refine Calls.mono (K.out _) ?_; rintro e w2 ⟨rfl, rfl⟩)
    go_returns
    exact ⟨rfl, rfl⟩
/-- What may be reckoned, in the table's order. -/
def mixL : List (ByteArray × Int × Int × Int) := [(⟨#[43]⟩, 5, 2, 5), (⟨#[45]⟩, 5, 5, 2), (⟨#[45]⟩, 5, 2, 5), (⟨#[42]⟩, 2, 2, 2), (⟨#[42]⟩, 3, 2, 3), (⟨#[42]⟩, 4, 2, 4), (⟨#[42]⟩, 4, 3, 3), (⟨#[47]⟩, 2, 2, 2), (⟨#[47]⟩, 3, 2, 3), (⟨#[47]⟩, 3, 3, 4)]
def mixA : Array Value := #[.string ⟨#[43]⟩, .int .i64 5, .int .i64 2, .int .i64 5, .string ⟨#[45]⟩, .int .i64 5, .int .i64 5, .int .i64 2, .string ⟨#[45]⟩, .int .i64 5, .int .i64 2, .int .i64 5, .string ⟨#[42]⟩, .int .i64 2, .int .i64 2, .int .i64 2, .string ⟨#[42]⟩, .int .i64 3, .int .i64 2, .int .i64 3, .string ⟨#[42]⟩, .int .i64 4, .int .i64 2, .int .i64 4, .string ⟨#[42]⟩, .int .i64 4, .int .i64 3, .int .i64 3, .string ⟨#[47]⟩, .int .i64 2, .int .i64 2, .int .i64 2, .string ⟨#[47]⟩, .int .i64 3, .int .i64 2, .int .i64 3, .string ⟨#[47]⟩, .int .i64 3, .int .i64 3, .int .i64 4]
def TabM (w : World) : Prop := 0 < w.heap.size ∧ ∀ i, i < 40 → w.cell? ⟨0, i, none⟩ = mixA[i]?
theorem TabM.keep {w w' : World} (h : TabM w) (hs : w.heap.size ≤ w'.heap.size) (hb : w'.heap[0]? = w.heap[0]?) : TabM w' :=
  ⟨by have := h.1; omega, fun i hi => (World.cell?_of_block (a := ⟨0, i, none⟩) hb).trans (h.2 i hi)⟩
theorem TabM.next {w w' : World} (h : TabM w) (hb : Below w.heap.size w w') : TabM w' := h.keep hb.size (hb.block 0 h.1)
theorem mixInfo : (Tryd.prog.info? 117).map (·.size) = some 40 := by kernel_rfl
theorem run_mix {w : World} (hT : TabM w) : (loadVar 117 ⟨0, 0, none⟩).run Tryd.prog w = .ok (.agg mixA) w := by
  have hl : (loadCells ⟨0, 0, none⟩ mixA.toList.length).run Tryd.prog w = .ok mixA.toList.toArray w :=
    run_loadCells_list (P := Tryd.prog) w ⟨0, 0, none⟩ mixA.toList (fun j v hv => by
      have hadd : (⟨0, 0, none⟩ : Addr).add j = ⟨0, j, none⟩ := by unfold Addr.add; split <;> simp_all
      have hj : j < 40 := (List.getElem?_eq_some_iff.1 hv).1
      rw [hadd, hT.2 j hj]
      simpa using hv)
  have hu : Tryd.prog.underlying 117 = some _ := Tryd.underlying117
  cases hq : Tryd.prog.info? 117 with
  | none => have := mixInfo; rw [hq] at this; cases this
  | some i =>
    have hs : i.size = 40 := by have := mixInfo; rw [hq] at this; simpa using this
    have hagg : (isAgg 117).run Tryd.prog w = .ok true w := by
      unfold isAgg
      rw [Sem.run_bind, run_underlying hu w]
      simp
    have hn : mixA.toList.length = 40 := rfl
    rw [hn, Array.toArray_toList] at hl
    simp only [loadVar, Sem.run_bind, hagg, sizeOf, typeInfo, hq, hs, hl]
    simp [hq, hs, hl]
theorem wpList_mix {w : World} {ops : Array Oper} {rest : List Oper} {o : Oper} {a : Act} {Q : Exit → Act → World → Prop} (hgd : o.guard = none) (ho : o.op = .load 117 (.global 0)) (hT : TabM w)
    (h : wpList Tryd.prog ops Q rest (a.put o.dst (.agg mixA)) w) : wpList Tryd.prog ops Q (o :: rest) a w := by
  refine wpList_plain hgd fun _ hK => ?_
  have hr := run_mix hT
  unfold Oper.wp execOp
  have hx : a.eval (.global 0) = .pointer (some ⟨0, 0, none⟩) := rfl
  simp only [ho, hx, Instr.loadAt, Instr.sureAddr, Sem.run_bind, Sem.run_pure, Result.andThen_ok, hr]
  exact hK _ _ h
set_option maxRecDepth 100000 in
theorem idxm_0 (w : World) : (Instr.index 117 (.agg mixA) (.int .i64 0)).run Tryd.prog w = .ok (.agg #[.string ⟨#[43]⟩, .int .i64 5, .int .i64 2, .int .i64 5]) w := by kernel_rfl
set_option maxRecDepth 100000 in
theorem idxm_1 (w : World) : (Instr.index 117 (.agg mixA) (.int .i64 1)).run Tryd.prog w = .ok (.agg #[.string ⟨#[45]⟩, .int .i64 5, .int .i64 5, .int .i64 2]) w := by kernel_rfl
set_option maxRecDepth 100000 in
theorem idxm_2 (w : World) : (Instr.index 117 (.agg mixA) (.int .i64 2)).run Tryd.prog w = .ok (.agg #[.string ⟨#[45]⟩, .int .i64 5, .int .i64 2, .int .i64 5]) w := by kernel_rfl
set_option maxRecDepth 100000 in
theorem idxm_3 (w : World) : (Instr.index 117 (.agg mixA) (.int .i64 3)).run Tryd.prog w = .ok (.agg #[.string ⟨#[42]⟩, .int .i64 2, .int .i64 2, .int .i64 2]) w := by kernel_rfl
set_option maxRecDepth 100000 in
theorem idxm_4 (w : World) : (Instr.index 117 (.agg mixA) (.int .i64 4)).run Tryd.prog w = .ok (.agg #[.string ⟨#[42]⟩, .int .i64 3, .int .i64 2, .int .i64 3]) w := by kernel_rfl
set_option maxRecDepth 100000 in
theorem idxm_5 (w : World) : (Instr.index 117 (.agg mixA) (.int .i64 5)).run Tryd.prog w = .ok (.agg #[.string ⟨#[42]⟩, .int .i64 4, .int .i64 2, .int .i64 4]) w := by kernel_rfl
set_option maxRecDepth 100000 in
theorem idxm_6 (w : World) : (Instr.index 117 (.agg mixA) (.int .i64 6)).run Tryd.prog w = .ok (.agg #[.string ⟨#[42]⟩, .int .i64 4, .int .i64 3, .int .i64 3]) w := by kernel_rfl
set_option maxRecDepth 100000 in
theorem idxm_7 (w : World) : (Instr.index 117 (.agg mixA) (.int .i64 7)).run Tryd.prog w = .ok (.agg #[.string ⟨#[47]⟩, .int .i64 2, .int .i64 2, .int .i64 2]) w := by kernel_rfl
set_option maxRecDepth 100000 in
theorem idxm_8 (w : World) : (Instr.index 117 (.agg mixA) (.int .i64 8)).run Tryd.prog w = .ok (.agg #[.string ⟨#[47]⟩, .int .i64 3, .int .i64 2, .int .i64 3]) w := by kernel_rfl
set_option maxRecDepth 100000 in
theorem idxm_9 (w : World) : (Instr.index 117 (.agg mixA) (.int .i64 9)).run Tryd.prog w = .ok (.agg #[.string ⟨#[47]⟩, .int .i64 3, .int .i64 3, .int .i64 4]) w := by kernel_rfl
theorem idx_mix : ∀ (i : Nat) (x : ByteArray × Int × Int × Int), mixL[i]? = some x → ∀ w, (Instr.index 117 (.agg mixA) (.int .i64 (i : Nat))).run Tryd.prog w = .ok (.agg #[.string x.1, .int .i64 x.2.1, .int .i64 x.2.2.1, .int .i64 x.2.2.2]) w := by
  intro i x h w
  match i, h with
  | 0, h => cases (Option.some.inj h); exact idxm_0 w
  | 1, h => cases (Option.some.inj h); exact idxm_1 w
  | 2, h => cases (Option.some.inj h); exact idxm_2 w
  | 3, h => cases (Option.some.inj h); exact idxm_3 w
  | 4, h => cases (Option.some.inj h); exact idxm_4 w
  | 5, h => cases (Option.some.inj h); exact idxm_5 w
  | 6, h => cases (Option.some.inj h); exact idxm_6 w
  | 7, h => cases (Option.some.inj h); exact idxm_7 w
  | 8, h => cases (Option.some.inj h); exact idxm_8 w
  | 9, h => cases (Option.some.inj h); exact idxm_9 w
  | i + 10, h => simp [mixL] at h
end Go.Proofs.YtonmdlhlkacppaaDoor

