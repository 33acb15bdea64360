/- Texts without tables are parsed; the law's own look that it is awake: the texts. -/
import Derived.Test.YtobolipjgkabhaaDoorSr
import Derived.Test.YtobolipjgkabhaaDoorQf
namespace Go.Proofs.YtobolipjgkabhaaDoor
open Go.Shelf Go.RowKit
set_option linter.unusedVariables false
set_option linter.unusedSimpArgs false

theorem tc_of {ws : List Wo} (h : ws.all (fun x => !(eqB x.t ⟨#[116, 97, 98, 108, 101]⟩)) = true) : TC ws := by
  intro w p b c k o e
  exfalso
  cases hd : ws.drop k with
  | nil => rw [hd] at e; revert e; decide
  | cons x r =>
    rw [hd] at e
    have e : eqB x.t ⟨#[116, 97, 98, 108, 101]⟩ = true := e
    have m : x ∈ ws := List.mem_of_mem_drop (by rw [hd]; exact List.mem_cons_self)
    have := List.all_eq_true.1 h x m
    rw [e] at this
    cases this
/-- A text that is cut, and has no table. -/
theorem parse_no (s : ByteArray) (w : World) (RW : List Wd) (r : Tr ⊕ (Nat × Nat)) (hs : s.size ≤ 8192) (hx : cutF s 0 = (RW, none)) (hn : (RW.map (wo s)).all (fun x => !(eqB x.t ⟨#[116, 97, 98, 108, 101]⟩)) = true) (hr : parF (RW.map (wo s)) = r) (hT : KT w) (hS : Tab w) :
    Calls Tryd.prog 5 #[.string s] w fun e w' => PrP r w e w' := by
  have := parse_good s w RW hs hx (tc_of hn) hT hS
  rw [show parse s = r from by unfold parse; rw [if_neg (by omega), hx]; exact hr] at this
  exact this
def aw1T : ByteArray := ⟨#[114, 117, 108, 101, 32, 116, 32, 109, 111, 110, 101, 121, 32, 61, 32, 36, 49, 32, 43, 32, 36, 50, 59]⟩
def aw1R : List Wd := [(2, 4, 0, 0), (1, 1, 0, 5), (2, 5, 0, 7), (7, 1, 0, 13), (4, 2, 100, 15), (7, 1, 0, 18), (4, 2, 200, 20), (7, 1, 0, 22), (0, 0, 0, 23)]
theorem aw1C : cutF aw1T 0 = (aw1R, none) := by decide +kernel
def aw1P : Tr := .nd ⟨#[43]⟩ ⟨#[]⟩ 0 0 18 [lit1 3 100 15, lit1 3 200 20]
def aw1U : Tr := .nd ⟨#[114, 117, 108, 101]⟩ ⟨#[116]⟩ 3 0 0 [aw1P]
def aw1X : Tr := .nd ⟨#[115, 116, 97, 116, 117, 116, 101]⟩ ⟨#[]⟩ 0 0 0 [aw1U]
theorem aw1N : (aw1R.map (wo aw1T)).all (fun x => !(eqB x.t ⟨#[116, 97, 98, 108, 101]⟩)) = true := by decide +kernel
theorem aw1W : parF (aw1R.map (wo aw1T)) = .inl aw1X := by kernel_rfl
def aw2T : ByteArray := ⟨#[114, 117, 108, 101]⟩
def aw2R : List Wd := [(2, 4, 0, 0), (0, 0, 0, 4)]
theorem aw2C : cutF aw2T 0 = (aw2R, none) := by decide +kernel
theorem aw2N : (aw2R.map (wo aw2T)).all (fun x => !(eqB x.t ⟨#[116, 97, 98, 108, 101]⟩)) = true := by decide +kernel
theorem aw2W : parF (aw2R.map (wo aw2T)) = .inr (4, 7) := by kernel_rfl
theorem dd1 {u : Nat} (h : u < 10) : Lib.decDigits u = [UInt8.ofNat (48 + u)] := by
  unfold Lib.decDigits
  rw [dif_pos h]
theorem dd2 {u : Nat} (h : ¬ u < 10) : Lib.decDigits u = Lib.decDigits (u / 10) ++ [UInt8.ofNat (48 + u % 10)] := by
  rw [Lib.decDigits]
  rw [dif_neg h]
theorem dd100 : Lib.decDigits 100 = [49, 48, 48] := by
  rw [dd2 (by decide), dd2 (by decide), dd1 (by decide)]
  decide
theorem lit100 : litS 3 100 = [36, 49, 46, 48, 48] := by
  unfold litS decU
  rw [if_neg (by decide), if_neg (by decide), if_pos rfl, show 100 / 100 = 1 from rfl, show 100 + 100 % 100 = 100 from rfl, dd100, dd1 (by decide)]
  decide
theorem lit200 : litS 3 200 = [36, 50, 46, 48, 48] := by
  unfold litS decU
  rw [if_neg (by decide), if_neg (by decide), if_pos rfl, show 200 / 100 = 2 from rfl, show 100 + 200 % 100 = 100 from rfl, dd100, dd1 (by decide)]
  decide
theorem shw_nd {op nm : ByteArray} {kd : Nat} {n : Int} {a : Nat} {ks : List Tr} (h1 : eqB op ⟨#[115, 116, 97, 116, 117, 116, 101]⟩ = false) (h2 : eqB op ⟨#[108, 105, 116]⟩ = false) (h3 : okP (patF op ks.length) kd ks.length = true) : shw (.nd op nm kd n a ks) = fillS op nm kd (patF op ks.length).data.toList (shwK ks) := by
  rw [shw, if_neg (by rw [h1]; decide), if_neg (by rw [h2]; decide), if_pos h3]
theorem shw_lit (nm : ByteArray) (kd n a : Nat) : shw (.nd ⟨#[108, 105, 116]⟩ nm kd (n : Nat) a []) = litS kd n := litS_of
theorem aw1S : shw aw1X = [114, 117, 108, 101, 32, 116, 32, 109, 111, 110, 101, 121, 32, 61, 32, 40, 36, 49, 46, 48, 48, 32, 43, 32, 36, 50, 46, 48, 48, 41, 59, 10] := by
  have p : shw aw1P = [40, 36, 49, 46, 48, 48, 32, 43, 32, 36, 50, 46, 48, 48, 41] := by
    unfold aw1P lit1
    rw [shw_nd (by decide) (by decide) (by decide)]
    simp only [shwK]
    rw [shw_lit, shw_lit, lit100, lit200]
    rfl
  have u : shw aw1U = [114, 117, 108, 101, 32, 116, 32, 109, 111, 110, 101, 121, 32, 61, 32, 40, 36, 49, 46, 48, 48, 32, 43, 32, 36, 50, 46, 48, 48, 41, 59] := by
    unfold aw1U
    rw [shw_nd (by decide) (by decide) (by decide)]
    simp only [shwK]
    rw [p]
    rfl
  unfold aw1X
  rw [shw, if_pos (by decide)]
  simp only [shwL]
  rw [u]
  rfl
theorem aw1G (B : Nat) (hB : 1 < B) : SC B aw1X := by
  refine show_stat B _ _ _ _ _ hB (by decide) fun t ht => ?_
  obtain rfl := List.mem_singleton.1 ht
  refine show_nd B _ _ _ _ _ _ hB (by decide) (by decide) (by decide) (by decide) (by decide) fun t ht => ?_
  obtain rfl := List.mem_singleton.1 ht
  refine show_nd B _ _ _ _ _ _ hB (by decide) (by decide) (by decide) (by decide) (by decide) fun t ht => ?_
  rcases List.mem_cons.1 ht with rfl | ht
  · exact show_lit B _ 3 100 15 (by decide)
  · obtain rfl := List.mem_singleton.1 ht
    exact show_lit B _ 3 200 20 (by decide)
theorem aw1K : Nw aw1X :=
  .nd _ _ _ _ _ _ (by decide) fun t ht => by
    obtain rfl := List.mem_singleton.1 ht
    exact .nd _ _ _ _ _ _ (by decide) fun t ht => by
      obtain rfl := List.mem_singleton.1 ht
      exact .nd _ _ _ _ _ _ (by decide) fun t ht => by
        rcases List.mem_cons.1 ht with rfl | ht
        · exact .nd _ _ _ _ _ _ (by decide) (fun t ht => by simp at ht)
        · obtain rfl := List.mem_singleton.1 ht
          exact .nd _ _ _ _ _ _ (by decide) (fun t ht => by simp at ht)
theorem aw1Y : smT aw1X aw1X = true := by decide +kernel
theorem aw1Z : smT aw1X Tr.zero = false := by decide +kernel
end Go.Proofs.YtobolipjgkabhaaDoor
