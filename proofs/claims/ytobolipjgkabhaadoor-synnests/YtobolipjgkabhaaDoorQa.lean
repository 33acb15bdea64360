/- What a tree is written as, in plain words. -/
import Derived.Test.YtobolipjgkabhaaDoorSz
namespace Go.Proofs.YtobolipjgkabhaaDoor
open Go.Shelf Go.RowKit
set_option linter.unusedVariables false
set_option linter.unusedSimpArgs false

/-- A pattern filled: the kids' bytes are given. -/
def fillS (op nm : ByteArray) (kd : Nat) : List UInt8 → List (List UInt8) → List UInt8
  | [], _ => []
  | c :: p, ks =>
    if c = 79 then op.data.toList ++ fillS op nm kd p ks
    else if c = 78 then nm.data.toList ++ fillS op nm kd p ks
    else if c = 75 then (kNm kd).data.toList ++ fillS op nm kd p ks
    else if c = 69 then (match ks with | [] => fillS op nm kd p [] | k :: ks => k ++ fillS op nm kd p ks)
    else c :: fillS op nm kd p ks
def okP (p : ByteArray) (kd m : Nat) : Bool := decide ((m : Int) = Lib.countByte p.data.toList 69) && (!(decide (0 ≤ Lib.indexByte p.data.toList 75)) || (decide (1 ≤ kd) && decide (kd ≤ 6)))
mutual
def shw : Tr → List UInt8
  | .nd op nm kd n a ks =>
    if eqB op ⟨#[115, 116, 97, 116, 117, 116, 101]⟩ then shwL ks
    else if eqB op ⟨#[108, 105, 116]⟩ then litS kd n.toNat
    else if okP (patF op ks.length) kd ks.length then fillS op nm kd (patF op ks.length).data.toList (shwK ks) else []
def shwK : List Tr → List (List UInt8)
  | [] => []
  | t :: ts => shw t :: shwK ts
def shwL : List Tr → List UInt8
  | [] => []
  | t :: ts => shw t ++ [10] ++ shwL ts
end
/-- Trees that show is proved for: literals are plain, and there are no tables in them. -/
inductive Sg : Tr → Prop
  | lit (nm : ByteArray) (kd n a : Nat) (hk : kd = 1 ∧ n ≤ 1 ∨ kd = 2 ∧ n < 9223372036854775808 ∨ kd = 3 ∧ n < 9223372036854775808) : Sg (.nd ⟨#[108, 105, 116]⟩ nm kd (n : Nat) a [])
  | nd (op nm : ByteArray) (kd : Nat) (n : Int) (a : Nat) (ks : List Tr) (h1 : eqB op ⟨#[108, 105, 116]⟩ = false) (h2 : eqB op ⟨#[116, 97, 98, 108, 101]⟩ = false) (hk : ∀ t ∈ ks, Sg t) : Sg (.nd op nm kd n a ks)
theorem t1 : shw (.nd ⟨#[43]⟩ ⟨#[]⟩ 0 0 3 [.nd ⟨#[110, 97, 109, 101]⟩ ⟨#[120]⟩ 0 0 1 [], .nd ⟨#[110, 97, 109, 101]⟩ ⟨#[121]⟩ 0 0 5 []]) = [40, 120, 32, 43, 32, 121, 41] := by decide +kernel
end Go.Proofs.YtobolipjgkabhaaDoor
