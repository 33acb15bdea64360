/- The table of kinds; the walks over kindName and the parser's kind. -/
import Derived.Test.YtobolipjgkabhaaDoorSc
import Derived.Deep.LoopGhost
namespace Go.Proofs.YtobolipjgkabhaaDoor
open Go.RowKit
set_option linter.unusedVariables false
set_option linter.unusedSimpArgs false

def kNl : List ByteArray := [⟨#[]⟩, ⟨#[98, 111, 111, 108]⟩, ⟨#[99, 111, 117, 110, 116]⟩, ⟨#[109, 111, 110, 101, 121]⟩, ⟨#[114, 97, 116, 101]⟩, ⟨#[100, 97, 116, 101]⟩, ⟨#[109, 111, 110, 101, 121, 115]⟩]
/-- A kind's name. -/
def kNm (k : Nat) : ByteArray := kNl.getD k ⟨#[]⟩
/-- The table of kinds lies in its place. -/
def KT (w : World) : Prop := 1 < w.heap.size ∧ ∀ i, i < 7 → w.cell? ⟨1, i, none⟩ = some (.string (kNm i))
theorem KT.keep {w w' : World} (h : KT w) (e : w'.heap[1]? = w.heap[1]?) (hs : w.heap.size ≤ w'.heap.size) : KT w' :=
  ⟨Nat.lt_of_lt_of_le h.1 hs, fun i hi => by rw [World.cell?_of_block (a := ⟨1, i, none⟩) e]; exact h.2 i hi⟩
theorem KT.next {w w' : World} (h : KT w) (hb : Below w.heap.size w w') : KT w' := h.keep (hb.block _ h.1) hb.size
theorem KT.gr {w w' : World} {p : Nat} (h : KT w) (hb : Gr w w' p) (hp : 1 ≠ p) : KT w' := h.keep (hb.block _ h.1 (fun e => hp (by injection e))) hb.size
theorem kNm_big {k : Nat} (h : 6 < k) : kNm k = ⟨#[]⟩ := by
  unfold kNm
  rw [List.getD_eq_getElem?_getD, List.getElem?_eq_none (by simp [kNl]; omega)]
  rfl
theorem kindName_any (k : Nat) (w : World) (hk : k ≤ 1000000) (hT : KT w) : Calls Tryd.prog 33 #[.int .i64 (k : Nat)] w fun e w' => e = .returned (.string (kNm k)) ∧ w = w' := by
  by_cases h0 : k = 0
  · subst h0
    clear hT
    go_enter Tryd.func33, Tryd.ntmps33
    go_wp2
    go_ret
    exact ⟨rfl, rfl⟩
  · by_cases h6 : 6 < k
    · rw [kNm_big h6]
      clear hT
      have h1 : ¬ (k : Int) < 1 := by omega
      have h2 : 6 < (k : Int) := by omega
      go_enter Tryd.func33, Tryd.ntmps33
      go_wp2
      go_ret
      exact ⟨rfl, rfl⟩
    · have c := hT.2 k (by omega)
      have h1 : ¬ (k : Int) < 1 := by omega
      have h2 : ¬ 6 < (k : Int) := by omega
      clear hT
      generalize kNm k = s at *
      go_enter Tryd.func33, Tryd.ntmps33
      go_wp2
      go_ret
      exact ⟨rfl, rfl⟩
/-- kindF by the table. -/
theorem kindF_hit {t : ByteArray} {i : Nat} (h0 : 1 ≤ i) (h6 : i ≤ 6) (hf : ∀ j, 1 ≤ j → j < i → eqB t (kNm j) = false) (h : eqB t (kNm i) = true) : kindF t = i := by
  have a1 := fun q => hf 1 (by decide) q
  have a2 := fun q => hf 2 (by decide) q
  have a3 := fun q => hf 3 (by decide) q
  have a4 := fun q => hf 4 (by decide) q
  have a5 := fun q => hf 5 (by decide) q
  clear hf
  simp only [kNm, kNl, List.getD_cons_succ, List.getD_cons_zero] at a1 a2 a3 a4 a5
  match i, h0, h6 with
  | 1, _, _ => have h' : eqB t ⟨#[98, 111, 111, 108]⟩ = true := h; simp [kindF, h']
  | 2, _, _ => have h' : eqB t ⟨#[99, 111, 117, 110, 116]⟩ = true := h; simp [kindF, h', a1]
  | 3, _, _ => have h' : eqB t ⟨#[109, 111, 110, 101, 121]⟩ = true := h; simp [kindF, h', a1, a2]
  | 4, _, _ => have h' : eqB t ⟨#[114, 97, 116, 101]⟩ = true := h; simp [kindF, h', a1, a2, a3]
  | 5, _, _ => have h' : eqB t ⟨#[100, 97, 116, 101]⟩ = true := h; simp [kindF, h', a1, a2, a3, a4]
  | 6, _, _ => have h' : eqB t ⟨#[109, 111, 110, 101, 121, 115]⟩ = true := h; simp [kindF, h', a1, a2, a3, a4, a5]
theorem kindF_none {t : ByteArray} (hf : ∀ j, 1 ≤ j → j < 7 → eqB t (kNm j) = false) : kindF t = 0 := by
  have a1 := hf 1 (by decide) (by decide)
  have a2 := hf 2 (by decide) (by decide)
  have a3 := hf 3 (by decide) (by decide)
  have a4 := hf 4 (by decide) (by decide)
  have a5 := hf 5 (by decide) (by decide)
  have a6 := hf 6 (by decide) (by decide)
  simp only [kNm, kNl, List.getD_cons_succ, List.getD_cons_zero] at a1 a2 a3 a4 a5 a6
  simp [kindF, a1, a2, a3, a4, a5, a6]
set_option maxRecDepth 100000 in
set_option maxHeartbeats 2000000 in
theorem pkind_any {w : World} {p b c : Nat} {ws : List Wo} {k : Nat} {o : Option Nat} (h : Ps w p b c ws k o) (hT : KT w) :
    Calls Tryd.prog 45 #[.pointer (some ⟨p, 0, none⟩)] w fun e w' => Gr w w' p ∧ ((kindF (tw (ws.drop k)) = 0 ∧ e = .returned (.tuple #[.int .i64 0, .bool false]) ∧ Ps w' p b c ws k o) ∨ (kindF (tw (ws.drop k)) ≠ 0 ∧ kindF (tw (ws.drop k)) ≤ 6 ∧ e = .returned (.tuple #[.int .i64 (kindF (tw (ws.drop k)) : Nat), .bool true]) ∧ Ps w' p b c ws (k + 1) o)) := by
  have HP := hid h
  have HT := hid hT
  have ME := hid (show ∀ i, 1 ≤ i → i ≤ 6 → eqB (tw (ws.drop k)) (kNm i) = true → k + 1 < ws.length from fun i h1 h6 q => by
    obtain ⟨x, cu⟩ := h.cur
    refine h.more cu.at_ (Or.inr fun z => ?_)
    rw [cu.dr] at q
    have q : eqB x.t (kNm i) = true := q
    rw [z] at q
    match i, h1, h6 with
    | 1, _, _ => cases q
    | 2, _, _ => cases q
    | 3, _, _ => cases q
    | 4, _, _ => cases q
    | 5, _, _ => cases q
    | 6, _, _ => cases q)
  have lk : (k : Int) ≤ 9000 := by have := h.lt; have := h.len; omega
  clear h hT
  go_enter Tryd.func45, Tryd.ntmps45
  go_wp2
  go_loopg [4] 7 (fun g kv wr => ∃ i : Nat, 1 ≤ i ∧ i ≤ 7 ∧ g = 8 - i ∧ kv = .int .i64 (i : Nat) ∧ Hid (Below w.heap.size w wr) ∧ Hid (∀ j, 1 ≤ j → j < i → eqB (tw (ws.drop k)) (kNm j) = false))
  case atStart => exact ⟨1, Nat.le_refl _, by decide, rfl, rfl, Below.refl _ _, fun j h1 h2 => by omega⟩
  case round =>
    obtain ⟨i, hi1, hi7, rfl, rfl, HB, HF⟩ := hrel
    by_cases q : i ≤ 6
    · have q' : (i : Int) ≤ 6 := by omega
      have HPr := hid (HP.out.next HB.out)
      have KC := hid (fun w0 (hb : Below wr.heap.size wr w0) => kindName_any i w0 (by omega) ((HT.out.next HB.out).next hb))
      have IC := hid (is_any HPr.out (kNm i))
      cases z : eqB (tw (ws.drop k)) (kNm i)
      · rw [z] at IC
        have HF' := hid (show ∀ j, 1 ≤ j → j < i + 1 → eqB (tw (ws.drop k)) (kNm j) = false from fun j h1 h2 => by
          rcases Nat.lt_or_ge j i with y | y
          · exact HF.out j h1 y
          · obtain rfl : j = i := by omega
            exact z)
        clear z
        generalize kNm i = s at *
        go_wp2_with (first | (go_at_call 33; with_reducible refine Calls.mono (KC.out _ (Below.refl _ _)) ?_; rintro e w5 ⟨rfl, rfl⟩) | (go_at_call 47; with_reducible refine Calls.mono IC.out ?_; rintro e w5 ⟨rfl, b5⟩))
        go_roundg (8 - (i + 1))
        case measure => omega
        case rel => exact ⟨i + 1, by omega, by omega, rfl, by rw [Int.natCast_add]; rfl, nextB HB.out b5, HF'⟩
      · rw [z] at IC
        have KF := hid (kindF_hit hi1 q HF.out z)
        have MO := hid (ME.out i hi1 q z)
        clear z HF ME
        generalize kNm i = s at *
        go_wp2_with (first | (go_at_call 33; with_reducible refine Calls.mono (KC.out _ (Below.refl _ _)) ?_; rintro e w5 ⟨rfl, rfl⟩) | (go_at_call 47; with_reducible refine Calls.mono IC.out ?_; rintro e w5 ⟨rfl, b5⟩; have P5 := hid (HPr.out.next b5); have B5 := hid (nextB HB.out b5); have pz := P5.out.fz 1; have p1 := P5.out.c1; clear b5))
        go_returns
        exact ⟨((Gr.refl _ _).below B5.out).set _, Or.inr ⟨by rw [KF.out]; omega, by rw [KF.out]; exact q, by rw [KF.out]; rfl, P5.out.step MO.out⟩⟩
    · have q' : ¬ (i : Int) ≤ 6 := by omega
      have KF := hid (kindF_none fun j h1 h2 => HF.out j h1 (by omega))
      go_wp2
      go_returns
      exact ⟨(Gr.refl _ _).below HB.out, Or.inl ⟨KF.out, rfl, HP.out.next HB.out⟩⟩
end Go.Proofs.YtobolipjgkabhaaDoor
