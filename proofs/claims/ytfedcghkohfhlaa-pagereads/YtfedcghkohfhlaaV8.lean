/- The reference's Decode, whatever bytes; what is read of few bytes is small. -/
import Derived.Test.YtfedcghkohfhlaaV6
import Derived.Test.YtfedcghkohfhlaaV7
namespace Go.Proofs.Ytfedcghkohfhlaa
open Go.RowKit
set_option linter.unusedVariables false
set_option linter.unusedSimpArgs false

theorem kDecode_any (a : Option Addr) (n cap : Nat) (bs : List Int) (w : World) (h : By w a n cap bs) (hn : n ≤ 80000) :
    Calls Try.prog 20 #[.slice a n cap] w fun e w' => KecP w w' e (dcd bs) := by
  cases bs with
  | nil => exact kDecode_none a n cap [] w h hn (Or.inl rfl)
  | cons c r =>
    by_cases c1 : c = 76
    · subst c1; exact kDecode_leaf a n cap r w h hn
    · by_cases c2 : c = 66
      · subst c2; exact kDecode_branch a n cap r w h hn
      · exact kDecode_none a n cap (c :: r) w h hn (Or.inr ⟨c, r, rfl, c1, c2⟩)
theorem encI_ge : ∀ (ks vs : List ByteArray), vs.length = ks.length → tot ks + tot vs + ks.length ≤ (encI ks vs).length
  | [], [], _ => by simp [tot]
  | k :: ks, v :: vs, h => by
    have := encI_ge ks vs (by simpa using h)
    have := enc_pos k.size
    have := enc_pos v.size
    simp only [encI, List.length_append, encS_len, tot, List.length_cons]
    omega
  | [], _ :: _, h => by simp at h
  | _ :: _, [], h => by simp at h
theorem encK_ge : ∀ ks : List ByteArray, tot ks + ks.length ≤ (encK ks).length
  | [] => by simp [tot]
  | k :: ks => by
    have := encK_ge ks
    have := enc_pos k.size
    simp only [encK, List.length_append, encS_len, tot, List.length_cons]
    omega
theorem encN_ge : ∀ is : List Nat, is.length ≤ (encN is).length
  | [] => by simp
  | k :: ks => by
    have := encN_ge ks
    have := enc_pos k
    simp only [encN, List.length_append, List.length_cons]
    omega
theorem fit_dcd {bs : List Int} {p : Pg} (hb : Bys bs) (hl : bs.length ≤ 2000) (h : dcd bs = some p) : Fit p ∧ encP p = bs ∧ goodB p = true := by
  obtain ⟨e, g, k⟩ := encP_dcd hb h
  refine ⟨?_, e, g⟩
  cases c : p.leaf with
  | true =>
    have q := goodB_leaf g c
    rw [encP_leaf c] at e
    have l := congrArg List.length e
    rw [List.length_append] at l
    have := encI_ge p.keys p.vals q.1
    exact ⟨by omega, by omega, by rw [q.2]; decide, by omega, by omega, k, fun _ => q.1⟩
  | false =>
    have q := goodB_branch g c
    rw [encP_branch c] at e
    have l := congrArg List.length e
    rw [List.length_append, List.length_append] at l
    have := encK_ge p.keys
    have := encN_ge p.kids
    exact ⟨by omega, by rw [q.1]; decide, by omega, by omega, by rw [q.1]; decide, k, fun h => by rw [c] at h; cases h⟩

end Go.Proofs.Ytfedcghkohfhlaa
