/- SynRanks in plain words. -/
import Derived.Test.YtiikdmnmfmfpdaaDoorGd
namespace Go.Proofs.YtiikdmnmfmfpdaaDoor
open Go.Shelf Go.RowKit
set_option linter.unusedVariables false
set_option linter.unusedSimpArgs false

def opR : List (List ByteArray) := [[⟨#[111, 114]⟩], [⟨#[97, 110, 100]⟩], [⟨#[60]⟩, ⟨#[60, 61]⟩, ⟨#[62]⟩, ⟨#[62, 61]⟩, ⟨#[61, 61]⟩, ⟨#[33, 61]⟩], [⟨#[43]⟩, ⟨#[45]⟩], [⟨#[42]⟩, ⟨#[47]⟩]]
def lnR (a : Nat) : Nat := (opR.getD a []).length
def opS (a i : Nat) : ByteArray := (opR.getD a []).getD i ⟨#[]⟩
def txR (x y : ByteArray) : ByteArray := (((⟨#[114, 117, 108, 101, 32, 114, 32, 98, 111, 111, 108, 32, 61, 32, 120, 32]⟩ ++ x) ++ ⟨#[32, 121, 32]⟩) ++ y) ++ ⟨#[32, 122, 59]⟩
def wl (x y : ByteArray) : ByteArray := (((⟨#[114, 117, 108, 101, 32, 114, 32, 98, 111, 111, 108, 32, 61, 32, 40, 120, 32]⟩ ++ x) ++ ⟨#[32, 40, 121, 32]⟩) ++ y) ++ ⟨#[32, 122, 41, 41, 59, 10]⟩
def wg (x y : ByteArray) : ByteArray := (((⟨#[114, 117, 108, 101, 32, 114, 32, 98, 111, 111, 108, 32, 61, 32, 40, 40, 120, 32]⟩ ++ x) ++ ⟨#[32, 121, 41, 32]⟩) ++ y) ++ ⟨#[32, 122, 41, 59, 10]⟩
mutual
/-- Trees that show is proved for, without literals. -/
def sgB : Tr → Bool
  | .nd op nm kd n a ks => (if eqB op ⟨#[115, 116, 97, 116, 117, 116, 101]⟩ then decide (ks.length ≤ 100000) else (!(eqB op ⟨#[108, 105, 116]⟩) && !(eqB op ⟨#[116, 97, 98, 108, 101]⟩) && okP (patF op ks.length) kd ks.length && decide (kd ≤ 1000000))) && sgL ks
def sgL : List Tr → Bool
  | [] => true
  | t :: ts => sgB t && sgL ts
end
mutual
theorem sg_of : ∀ t : Tr, sgB t = true → ∀ B, 1 < B → SC B t
  | .nd op nm kd n a ks, h, B, hB => by
    rw [sgB, Bool.and_eq_true] at h
    have hk := sg_ofL ks h.2 B hB
    have h1 := h.1
    cases e : eqB op ⟨#[115, 116, 97, 116, 117, 116, 101]⟩ with
    | true =>
      rw [e, if_pos rfl] at h1
      obtain rfl := eqB_eq e
      exact show_stat B nm kd n a ks hB (of_decide_eq_true h1) hk
    | false =>
      rw [e, if_neg (by decide)] at h1
      simp only [Bool.and_eq_true, Bool.not_eq_true'] at h1
      exact show_nd B op nm kd n a ks hB e h1.1.1.1 h1.1.1.2 h1.1.2 (of_decide_eq_true h1.2) hk
theorem sg_ofL : ∀ ts : List Tr, sgL ts = true → ∀ B, 1 < B → ∀ t ∈ ts, SC B t
  | [], _, B, hB, t, ht => by simp at ht
  | u :: us, h, B, hB, t, ht => by
    rw [sgL, Bool.and_eq_true] at h
    rcases List.mem_cons.1 ht with e | e
    · rw [e]; exact sg_of u h.1 B hB
    · exact sg_ofL us h.2 B hB t e
end
def ckR (a i b k : Nat) : Bool :=
  decide ((txR (opS a i) (opS b k)).size ≤ 8192) &&
  match cutF (txR (opS a i) (opS b k)) 0 with
  | (_, some _) => false
  | (RW, none) => (RW.map (wo (txR (opS a i) (opS b k)))).all (fun x => !(eqB x.t ⟨#[116, 97, 98, 108, 101]⟩)) &&
    match parF (RW.map (wo (txR (opS a i) (opS b k)))) with
    | .inr (_, n) => n == 7 && (a == 2 && b == 2)
    | .inl t => sgB t && (shw t == (if b ≤ a then wg (opS a i) (opS b k) else wl (opS a i) (opS b k)).data.toList) && !(a == 2 && b == 2)
set_option maxRecDepth 100000 in
theorem ckAll : ∀ a b : Fin 5, ∀ i k : Fin 6, i.val < lnR a.val → k.val < lnR b.val → ckR a.val i.val b.val k.val = true := by decide +kernel
end Go.Proofs.YtiikdmnmfmfpdaaDoor
