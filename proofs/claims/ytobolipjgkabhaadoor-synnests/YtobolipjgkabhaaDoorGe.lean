/- SynNests' texts: cut and parsed. SynNests: brackets, signs. SynNests: min, up to 40. SynNests: min, 41 to 52. SynNests: min, 53 to 60. SynNests: ifs. -/
import Derived.Test.YtobolipjgkabhaaDoorSa
import Derived.Test.YtobolipjgkabhaaDoorBt
namespace Go.Proofs.YtobolipjgkabhaaDoor
open Go.RowKit
set_option linter.unusedVariables false
set_option linter.unusedSimpArgs false

/-- What is written ahead of the number, and behind it, n times. -/
def opN : Nat → List UInt8 × List UInt8
  | 0 => ([40], [41])
  | 1 => ([45], [])
  | 2 => ([105, 102, 32, 116, 114, 117, 101, 32, 116, 104, 101, 110, 32], [32, 101, 108, 115, 101, 32, 49])
  | _ => ([109, 105, 110, 40, 49, 44, 32], [41])
def repN : Nat → List UInt8 → List UInt8
  | 0, _ => []
  | n + 1, l => repN n l ++ l
def txN (how n : Nat) : List UInt8 := (([114, 117, 108, 101, 32, 97, 32, 99, 111, 117, 110, 116, 32, 61, 32] ++ repN n (opN how).1) ++ [49]) ++ repN n (opN how).2 ++ [59]
theorem repN_left (l : List UInt8) : ∀ n, repN (n + 1) l = l ++ repN n l
  | 0 => by simp [repN]
  | n + 1 => by
    show repN (n + 1) l ++ l = l ++ (repN n l ++ l)
    rw [repN_left l n, List.append_assoc]
/-- What it is asked of a text: it is cut, has no table, and is a tree just if it is not too deep. -/
def OkN (s : ByteArray) (n : Nat) : Prop := ∃ RW, cutF s 0 = (RW, none) ∧ (RW.map (wo s)).all (fun x => !(eqB x.t ⟨#[116, 97, 98, 108, 101]⟩)) = true ∧ match parF (RW.map (wo s)) with | .inr (_, e) => 39 < n ∧ e = 2 | .inl _ => n ≤ 39
def ckN (how n : Nat) : Bool :=
  match cutF (tx (txN how n)) 0 with
  | (_, some _) => false
  | (RW, none) => (RW.map (wo (tx (txN how n)))).all (fun x => !(eqB x.t ⟨#[116, 97, 98, 108, 101]⟩)) &&
    match parF (RW.map (wo (tx (txN how n)))) with
    | .inr (_, e) => decide (39 < n) && e == 2
    | .inl t => decide (n ≤ 39)
theorem ok_ck {how n : Nat} (h : ckN how n = true) : OkN (tx (txN how n)) n := by
  unfold ckN at h
  unfold OkN
  split at h
  · cases h
  · rename_i RW e
    rw [Bool.and_eq_true] at h
    refine ⟨RW, e, h.1, ?_⟩
    have h2 := h.2
    split at h2
    · simpa using h2
    · simpa using h2
/-- A text cut from a place on, its words told in full. -/
def Cw (s : ByteArray) (a : Nat) (L : List Wo) : Prop := ∃ R, cutF s a = (R, none) ∧ R.map (wo s) = L
theorem Cw.word {s : ByteArray} {a n k v : Nat} {c : UInt8} {l t rest : List UInt8} {L : List Wo} (h : tl s a = c :: l) (hb : isBl c = false) (hh : c.toNat ≠ 35) (hw : wd (c :: l) = some (k, n, v)) (ht : (c :: l).take n = t) (hd : (c :: l).drop n = rest) (hr : tl s (a + n) = rest → Cw s (a + n) L) : Cw s a (⟨k, tx t, v, a⟩ :: L) := by
  obtain ⟨h1, h2, h3⟩ := tl_lt h
  obtain ⟨R, hR, hL⟩ := hr (by rw [← tl_drop, h, hd])
  refine ⟨(k, n, v, a) :: R, ?_, ?_⟩
  · rw [cutF_cons h1, h2, hb, if_neg hh, h, hw]
    simp only [Bool.false_eq_true, if_false]
    rw [hR]
  · rw [List.map_cons, hL]
    congr 1
    show Wo.mk k (s.extract a (a + n)) v a = _
    rw [ext_is, h, show a + n - a = n by omega, ht]
theorem Cw.blank {s : ByteArray} {a : Nat} {l : List UInt8} {L : List Wo} (h : tl s a = 32 :: l) (hr : tl s (a + 1) = l → Cw s (a + 1) L) : Cw s a L := by
  obtain ⟨h1, h2, h3⟩ := tl_lt h
  obtain ⟨R, hR, hL⟩ := hr h3
  exact ⟨R, by rw [cutF_cons h1, h2, if_pos (by decide)]; exact hR, hL⟩
theorem Cw.done {s : ByteArray} {a : Nat} (h : tl s a = []) : Cw s a [⟨0, tx [], 0, a⟩] := by
  have hs : s.size ≤ a := by
    rcases Nat.lt_or_ge a s.size with x | x
    · rw [tl_cons x] at h; cases h
    · exact x
  refine ⟨[(0, 0, 0, a)], cutF_end hs, ?_⟩
  rw [List.map_cons, List.map_nil]
  congr 1
  show Wo.mk 0 (s.extract a (a + 0)) 0 a = _
  rw [ext_is, h]
  simp
theorem Cw.ok {s : ByteArray} {n : Nat} {L : List Wo} (h : Cw s 0 L) (h1 : L.all (fun x => !(eqB x.t ⟨#[116, 97, 98, 108, 101]⟩)) = true) (h2 : match parF L with | .inr (_, e) => 39 < n ∧ e = 2 | .inl _ => n ≤ 39) : OkN s n := by
  obtain ⟨R, hR, rfl⟩ := h
  exact ⟨R, hR, h1, h2⟩
def opW : Nat → Nat → List Wo → List Wo
  | 0, _, L => L
  | n + 1, a, L => ⟨2, tx [105, 102], 0, a⟩ :: ⟨2, tx [116, 114, 117, 101], 0, a + 3⟩ :: ⟨2, tx [116, 104, 101, 110], 0, a + 8⟩ :: opW n (a + 13) L
def shW : Nat → Nat → List Wo → List Wo
  | 0, _, L => L
  | n + 1, a, L => ⟨2, tx [101, 108, 115, 101], 0, a + 1⟩ :: ⟨3, tx [49], 1, a + 6⟩ :: shW n (a + 7) L
def wsN (n : Nat) : List Wo := ⟨2, tx [114, 117, 108, 101], 0, 0⟩ :: ⟨1, tx [97], 0, 5⟩ :: ⟨2, tx [99, 111, 117, 110, 116], 0, 7⟩ :: ⟨7, tx [61], 0, 13⟩ :: opW n 15 (⟨3, tx [49], 1, 15 + 13 * n⟩ :: shW n (15 + 13 * n + 1) [⟨7, tx [59], 0, 15 + 13 * n + 1 + 7 * n⟩, ⟨0, tx [], 0, 15 + 13 * n + 1 + 7 * n + 1⟩])
def ckW (n : Nat) : Bool :=
  (wsN n).all (fun x => !(eqB x.t ⟨#[116, 97, 98, 108, 101]⟩)) &&
    match parF (wsN n) with
    | .inr (_, e) => decide (39 < n) && e == 2
    | .inl t => decide (n ≤ 39)
theorem open_W (s : ByteArray) : ∀ (n a : Nat) (rest : List UInt8) (L : List Wo), tl s a = repN n (opN 2).1 ++ rest → (tl s (a + 13 * n) = rest → Cw s (a + 13 * n) L) → Cw s a (opW n a L)
  | 0, a, rest, L, h, k => k h
  | n + 1, a, rest, L, h, k => by
    rw [repN_left, List.append_assoc] at h
    replace h : tl s a = 105 :: 102 :: 32 :: 116 :: 114 :: 117 :: 101 :: 32 :: 116 :: 104 :: 101 :: 110 :: 32 :: (repN n (opN 2).1 ++ rest) := h
    refine Cw.word (k := 2) (n := 2) (v := 0) h (by decide) (by decide) rfl rfl rfl (fun h => ?_)
    refine Cw.blank h (fun h => ?_)
    refine Cw.word (k := 2) (n := 4) (v := 0) h (by decide) (by decide) rfl rfl rfl (fun h => ?_)
    refine Cw.blank h (fun h => ?_)
    refine Cw.word (k := 2) (n := 4) (v := 0) h (by decide) (by decide) rfl rfl rfl (fun h => ?_)
    refine Cw.blank h (fun h => ?_)
    exact open_W s n (a + 13) rest L h (fun h => by rw [show a + 13 + 13 * n = a + 13 * (n + 1) by omega] at h ⊢; exact k h)
theorem one_wd (c : UInt8) (hc : c = 32 ∨ c = 59) (l : List UInt8) : wd (49 :: c :: l) = some (3, 1, 1) := by
  have q : runD (49 :: c :: l) = 1 := by rcases hc with rfl | rfl <;> rfl
  have dw : dotW (c :: l) = 0 := if_neg (fun h => absurd h.1 (by rcases hc with rfl | rfl <;> (show ¬ (_ : UInt8).toNat = 46; decide)))
  have pw : pctW (c :: l) = 0 := by unfold pctW; rw [dw]; rfl
  have e1 : dayW (49 :: c :: l) = none := by
    cases x : dayW (49 :: c :: l) with
    | none => rfl
    | some m =>
      obtain ⟨y1, y2⟩ := dayW_some x
      omega
  have e2 : isPct (49 :: c :: l) = false := by
    unfold isPct
    rw [q]
    show decide (hd ((49 :: c :: l).drop (1 + pctW (c :: l))) = 37) = false
    rw [pw]
    rcases hc with rfl | rfl <;> (show decide ((_ : UInt8).toNat = 37) = false; decide)
  show (if isLet 49 = true then namW (49 :: c :: l) else if (49 : UInt8).toNat = 36 then monW (49 :: c :: l) else if isDig 49 = true then numW (49 :: c :: l) else sgnW (49 :: c :: l)) = _
  rw [if_neg (by decide), if_neg (by decide), if_pos (by decide)]
  unfold numW
  rw [e1]
  dsimp only
  rw [e2, if_neg (by decide), q]
  rfl
theorem shut_W (s : ByteArray) : ∀ (n a : Nat) (L : List Wo), tl s a = repN n (opN 2).2 ++ [59] → (tl s (a + 7 * n) = [59] → Cw s (a + 7 * n) L) → Cw s a (shW n a L)
  | 0, a, L, h, k => k h
  | n + 1, a, L, h, k => by
    rw [repN_left, List.append_assoc] at h
    replace h : tl s a = 32 :: 101 :: 108 :: 115 :: 101 :: 32 :: 49 :: (repN n (opN 2).2 ++ [59]) := h
    refine Cw.blank h (fun h => ?_)
    refine Cw.word (k := 2) (n := 4) (v := 0) h (by decide) (by decide) rfl rfl rfl (fun h => ?_)
    refine Cw.blank h (fun h => ?_)
    obtain ⟨c, l, e, hc⟩ : ∃ c l, repN n (opN 2).2 ++ [59] = c :: l ∧ (c = 32 ∨ c = 59) := by
      cases n with
      | zero => exact ⟨59, [], rfl, .inr rfl⟩
      | succ n => rw [repN_left, List.append_assoc]; exact ⟨32, _, rfl, .inl rfl⟩
    have h' : tl s (a + 1 + 4 + 1) = 49 :: (repN n (opN 2).2 ++ [59]) := h
    rw [e] at h'
    refine Cw.word (c := 49) (l := c :: l) (t := [49]) (rest := repN n (opN 2).2 ++ [59]) h' (by decide) (by decide) (one_wd c hc l) rfl e.symm (fun h => ?_)
    exact shut_W s n (a + 7) L h (fun h => by rw [show a + 7 + 7 * n = a + 7 * (n + 1) by omega] at h ⊢; exact k h)
theorem ok_W {n : Nat} (h : ckW n = true) : OkN (tx (txN 2 n)) n := by
  unfold ckW at h
  rw [Bool.and_eq_true] at h
  refine Cw.ok (L := wsN n) ?_ h.1 (by
    have h2 := h.2
    split at h2
    · simpa using h2
    · simpa using h2)
  have e : tl (tx (txN 2 n)) 0 = 114 :: 117 :: 108 :: 101 :: 32 :: 97 :: 32 :: 99 :: 111 :: 117 :: 110 :: 116 :: 32 :: 61 :: 32 :: (repN n (opN 2).1 ++ 49 :: (repN n (opN 2).2 ++ [59])) := by
    have e0 : tl (tx (txN 2 n)) 0 = txN 2 n := by unfold tl tx; simp
    rw [e0]
    unfold txN
    simp
  refine Cw.word (k := 2) (n := 4) (v := 0) e (by decide) (by decide) rfl rfl rfl (fun h => ?_)
  refine Cw.blank h (fun h => ?_)
  refine Cw.word (k := 1) (n := 1) (v := 0) h (by decide) (by decide) rfl rfl rfl (fun h => ?_)
  refine Cw.blank h (fun h => ?_)
  refine Cw.word (k := 2) (n := 5) (v := 0) h (by decide) (by decide) rfl rfl rfl (fun h => ?_)
  refine Cw.blank h (fun h => ?_)
  refine Cw.word (k := 7) (n := 1) (v := 0) h (by decide) (by decide) rfl rfl rfl (fun h => ?_)
  refine Cw.blank h (fun h => ?_)
  refine open_W _ n 15 _ _ h (fun h => ?_)
  obtain ⟨c, l, e, hc⟩ : ∃ c l, repN n (opN 2).2 ++ [59] = c :: l ∧ (c = 32 ∨ c = 59) := by
    cases n with
    | zero => exact ⟨59, [], rfl, .inr rfl⟩
    | succ n => rw [repN_left, List.append_assoc]; exact ⟨32, _, rfl, .inl rfl⟩
  have h' := h
  rw [e] at h'
  refine Cw.word (c := 49) (l := c :: l) (t := [49]) (rest := repN n (opN 2).2 ++ [59]) h' (by decide) (by decide) (one_wd c hc l) rfl e.symm (fun h => ?_)
  refine shut_W _ n _ _ h (fun h => ?_)
  refine Cw.word (c := 59) (l := []) (n := 1) (k := 7) (v := 0) (rest := []) h (by decide) (by decide) rfl rfl rfl (fun h => ?_)
  exact Cw.done h
end Go.Proofs.YtobolipjgkabhaaDoor

namespace Go.Proofs.YtobolipjgkabhaaDoor
set_option linter.unusedVariables false
set_option linter.unusedSimpArgs false
set_option maxRecDepth 100000

theorem c0_0 : ckN 0 0 = true := by decide +kernel
theorem c0_1 : ckN 0 1 = true := by decide +kernel
theorem c0_2 : ckN 0 2 = true := by decide +kernel
theorem c0_3 : ckN 0 3 = true := by decide +kernel
theorem c0_4 : ckN 0 4 = true := by decide +kernel
theorem c0_5 : ckN 0 5 = true := by decide +kernel
theorem c0_6 : ckN 0 6 = true := by decide +kernel
theorem c0_7 : ckN 0 7 = true := by decide +kernel
theorem c0_8 : ckN 0 8 = true := by decide +kernel
theorem c0_9 : ckN 0 9 = true := by decide +kernel
theorem c0_10 : ckN 0 10 = true := by decide +kernel
theorem c0_11 : ckN 0 11 = true := by decide +kernel
theorem c0_12 : ckN 0 12 = true := by decide +kernel
theorem c0_13 : ckN 0 13 = true := by decide +kernel
theorem c0_14 : ckN 0 14 = true := by decide +kernel
theorem c0_15 : ckN 0 15 = true := by decide +kernel
theorem c0_16 : ckN 0 16 = true := by decide +kernel
theorem c0_17 : ckN 0 17 = true := by decide +kernel
theorem c0_18 : ckN 0 18 = true := by decide +kernel
theorem c0_19 : ckN 0 19 = true := by decide +kernel
theorem c0_20 : ckN 0 20 = true := by decide +kernel
theorem c0_21 : ckN 0 21 = true := by decide +kernel
theorem c0_22 : ckN 0 22 = true := by decide +kernel
theorem c0_23 : ckN 0 23 = true := by decide +kernel
theorem c0_24 : ckN 0 24 = true := by decide +kernel
theorem c0_25 : ckN 0 25 = true := by decide +kernel
theorem c0_26 : ckN 0 26 = true := by decide +kernel
theorem c0_27 : ckN 0 27 = true := by decide +kernel
theorem c0_28 : ckN 0 28 = true := by decide +kernel
theorem c0_29 : ckN 0 29 = true := by decide +kernel
theorem c0_30 : ckN 0 30 = true := by decide +kernel
theorem c0_31 : ckN 0 31 = true := by decide +kernel
theorem c0_32 : ckN 0 32 = true := by decide +kernel
theorem c0_33 : ckN 0 33 = true := by decide +kernel
theorem c0_34 : ckN 0 34 = true := by decide +kernel
theorem c0_35 : ckN 0 35 = true := by decide +kernel
theorem c0_36 : ckN 0 36 = true := by decide +kernel
theorem c0_37 : ckN 0 37 = true := by decide +kernel
theorem c0_38 : ckN 0 38 = true := by decide +kernel
theorem c0_39 : ckN 0 39 = true := by decide +kernel
theorem c0_40 : ckN 0 40 = true := by decide +kernel
theorem c0_41 : ckN 0 41 = true := by decide +kernel
theorem c0_42 : ckN 0 42 = true := by decide +kernel
theorem c0_43 : ckN 0 43 = true := by decide +kernel
theorem c0_44 : ckN 0 44 = true := by decide +kernel
theorem c0_45 : ckN 0 45 = true := by decide +kernel
theorem c0_46 : ckN 0 46 = true := by decide +kernel
theorem c0_47 : ckN 0 47 = true := by decide +kernel
theorem c0_48 : ckN 0 48 = true := by decide +kernel
theorem c0_49 : ckN 0 49 = true := by decide +kernel
theorem c0_50 : ckN 0 50 = true := by decide +kernel
theorem c0_51 : ckN 0 51 = true := by decide +kernel
theorem c0_52 : ckN 0 52 = true := by decide +kernel
theorem c0_53 : ckN 0 53 = true := by decide +kernel
theorem c0_54 : ckN 0 54 = true := by decide +kernel
theorem c0_55 : ckN 0 55 = true := by decide +kernel
theorem c0_56 : ckN 0 56 = true := by decide +kernel
theorem c0_57 : ckN 0 57 = true := by decide +kernel
theorem c0_58 : ckN 0 58 = true := by decide +kernel
theorem c0_59 : ckN 0 59 = true := by decide +kernel
theorem c0_60 : ckN 0 60 = true := by decide +kernel
theorem c1_0 : ckN 1 0 = true := by decide +kernel
theorem c1_1 : ckN 1 1 = true := by decide +kernel
theorem c1_2 : ckN 1 2 = true := by decide +kernel
theorem c1_3 : ckN 1 3 = true := by decide +kernel
theorem c1_4 : ckN 1 4 = true := by decide +kernel
theorem c1_5 : ckN 1 5 = true := by decide +kernel
theorem c1_6 : ckN 1 6 = true := by decide +kernel
theorem c1_7 : ckN 1 7 = true := by decide +kernel
theorem c1_8 : ckN 1 8 = true := by decide +kernel
theorem c1_9 : ckN 1 9 = true := by decide +kernel
theorem c1_10 : ckN 1 10 = true := by decide +kernel
theorem c1_11 : ckN 1 11 = true := by decide +kernel
theorem c1_12 : ckN 1 12 = true := by decide +kernel
theorem c1_13 : ckN 1 13 = true := by decide +kernel
theorem c1_14 : ckN 1 14 = true := by decide +kernel
theorem c1_15 : ckN 1 15 = true := by decide +kernel
theorem c1_16 : ckN 1 16 = true := by decide +kernel
theorem c1_17 : ckN 1 17 = true := by decide +kernel
theorem c1_18 : ckN 1 18 = true := by decide +kernel
theorem c1_19 : ckN 1 19 = true := by decide +kernel
theorem c1_20 : ckN 1 20 = true := by decide +kernel
theorem c1_21 : ckN 1 21 = true := by decide +kernel
theorem c1_22 : ckN 1 22 = true := by decide +kernel
theorem c1_23 : ckN 1 23 = true := by decide +kernel
theorem c1_24 : ckN 1 24 = true := by decide +kernel
theorem c1_25 : ckN 1 25 = true := by decide +kernel
theorem c1_26 : ckN 1 26 = true := by decide +kernel
theorem c1_27 : ckN 1 27 = true := by decide +kernel
theorem c1_28 : ckN 1 28 = true := by decide +kernel
theorem c1_29 : ckN 1 29 = true := by decide +kernel
theorem c1_30 : ckN 1 30 = true := by decide +kernel
theorem c1_31 : ckN 1 31 = true := by decide +kernel
theorem c1_32 : ckN 1 32 = true := by decide +kernel
theorem c1_33 : ckN 1 33 = true := by decide +kernel
theorem c1_34 : ckN 1 34 = true := by decide +kernel
theorem c1_35 : ckN 1 35 = true := by decide +kernel
theorem c1_36 : ckN 1 36 = true := by decide +kernel
theorem c1_37 : ckN 1 37 = true := by decide +kernel
theorem c1_38 : ckN 1 38 = true := by decide +kernel
theorem c1_39 : ckN 1 39 = true := by decide +kernel
theorem c1_40 : ckN 1 40 = true := by decide +kernel
theorem c1_41 : ckN 1 41 = true := by decide +kernel
theorem c1_42 : ckN 1 42 = true := by decide +kernel
theorem c1_43 : ckN 1 43 = true := by decide +kernel
theorem c1_44 : ckN 1 44 = true := by decide +kernel
theorem c1_45 : ckN 1 45 = true := by decide +kernel
theorem c1_46 : ckN 1 46 = true := by decide +kernel
theorem c1_47 : ckN 1 47 = true := by decide +kernel
theorem c1_48 : ckN 1 48 = true := by decide +kernel
theorem c1_49 : ckN 1 49 = true := by decide +kernel
theorem c1_50 : ckN 1 50 = true := by decide +kernel
theorem c1_51 : ckN 1 51 = true := by decide +kernel
theorem c1_52 : ckN 1 52 = true := by decide +kernel
theorem c1_53 : ckN 1 53 = true := by decide +kernel
theorem c1_54 : ckN 1 54 = true := by decide +kernel
theorem c1_55 : ckN 1 55 = true := by decide +kernel
theorem c1_56 : ckN 1 56 = true := by decide +kernel
theorem c1_57 : ckN 1 57 = true := by decide +kernel
theorem c1_58 : ckN 1 58 = true := by decide +kernel
theorem c1_59 : ckN 1 59 = true := by decide +kernel
theorem c1_60 : ckN 1 60 = true := by decide +kernel
end Go.Proofs.YtobolipjgkabhaaDoor

namespace Go.Proofs.YtobolipjgkabhaaDoor
set_option linter.unusedVariables false
set_option linter.unusedSimpArgs false
set_option maxRecDepth 100000

theorem c3_0 : ckN 3 0 = true := by decide +kernel
theorem c3_1 : ckN 3 1 = true := by decide +kernel
theorem c3_2 : ckN 3 2 = true := by decide +kernel
theorem c3_3 : ckN 3 3 = true := by decide +kernel
theorem c3_4 : ckN 3 4 = true := by decide +kernel
theorem c3_5 : ckN 3 5 = true := by decide +kernel
theorem c3_6 : ckN 3 6 = true := by decide +kernel
theorem c3_7 : ckN 3 7 = true := by decide +kernel
theorem c3_8 : ckN 3 8 = true := by decide +kernel
theorem c3_9 : ckN 3 9 = true := by decide +kernel
theorem c3_10 : ckN 3 10 = true := by decide +kernel
theorem c3_11 : ckN 3 11 = true := by decide +kernel
theorem c3_12 : ckN 3 12 = true := by decide +kernel
theorem c3_13 : ckN 3 13 = true := by decide +kernel
theorem c3_14 : ckN 3 14 = true := by decide +kernel
theorem c3_15 : ckN 3 15 = true := by decide +kernel
theorem c3_16 : ckN 3 16 = true := by decide +kernel
theorem c3_17 : ckN 3 17 = true := by decide +kernel
theorem c3_18 : ckN 3 18 = true := by decide +kernel
theorem c3_19 : ckN 3 19 = true := by decide +kernel
theorem c3_20 : ckN 3 20 = true := by decide +kernel
theorem c3_21 : ckN 3 21 = true := by decide +kernel
theorem c3_22 : ckN 3 22 = true := by decide +kernel
theorem c3_23 : ckN 3 23 = true := by decide +kernel
theorem c3_24 : ckN 3 24 = true := by decide +kernel
theorem c3_25 : ckN 3 25 = true := by decide +kernel
theorem c3_26 : ckN 3 26 = true := by decide +kernel
theorem c3_27 : ckN 3 27 = true := by decide +kernel
theorem c3_28 : ckN 3 28 = true := by decide +kernel
theorem c3_29 : ckN 3 29 = true := by decide +kernel
theorem c3_30 : ckN 3 30 = true := by decide +kernel
theorem c3_31 : ckN 3 31 = true := by decide +kernel
theorem c3_32 : ckN 3 32 = true := by decide +kernel
theorem c3_33 : ckN 3 33 = true := by decide +kernel
theorem c3_34 : ckN 3 34 = true := by decide +kernel
theorem c3_35 : ckN 3 35 = true := by decide +kernel
theorem c3_36 : ckN 3 36 = true := by decide +kernel
theorem c3_37 : ckN 3 37 = true := by decide +kernel
theorem c3_38 : ckN 3 38 = true := by decide +kernel
theorem c3_39 : ckN 3 39 = true := by decide +kernel
theorem c3_40 : ckN 3 40 = true := by decide +kernel
end Go.Proofs.YtobolipjgkabhaaDoor

namespace Go.Proofs.YtobolipjgkabhaaDoor
set_option linter.unusedVariables false
set_option linter.unusedSimpArgs false
set_option maxRecDepth 100000

theorem c3_41 : ckN 3 41 = true := by decide +kernel
theorem c3_42 : ckN 3 42 = true := by decide +kernel
theorem c3_43 : ckN 3 43 = true := by decide +kernel
theorem c3_44 : ckN 3 44 = true := by decide +kernel
theorem c3_45 : ckN 3 45 = true := by decide +kernel
theorem c3_46 : ckN 3 46 = true := by decide +kernel
theorem c3_47 : ckN 3 47 = true := by decide +kernel
theorem c3_48 : ckN 3 48 = true := by decide +kernel
theorem c3_49 : ckN 3 49 = true := by decide +kernel
theorem c3_50 : ckN 3 50 = true := by decide +kernel
theorem c3_51 : ckN 3 51 = true := by decide +kernel
theorem c3_52 : ckN 3 52 = true := by decide +kernel
end Go.Proofs.YtobolipjgkabhaaDoor

namespace Go.Proofs.YtobolipjgkabhaaDoor
set_option linter.unusedVariables false
set_option linter.unusedSimpArgs false
set_option maxRecDepth 100000

theorem c3_53 : ckN 3 53 = true := by decide +kernel
theorem c3_54 : ckN 3 54 = true := by decide +kernel
theorem c3_55 : ckN 3 55 = true := by decide +kernel
theorem c3_56 : ckN 3 56 = true := by decide +kernel
theorem c3_57 : ckN 3 57 = true := by decide +kernel
theorem c3_58 : ckN 3 58 = true := by decide +kernel
theorem c3_59 : ckN 3 59 = true := by decide +kernel
theorem c3_60 : ckN 3 60 = true := by decide +kernel
end Go.Proofs.YtobolipjgkabhaaDoor

namespace Go.Proofs.YtobolipjgkabhaaDoor
set_option linter.unusedVariables false
set_option linter.unusedSimpArgs false
set_option maxRecDepth 100000

theorem cW_0 : ckW 0 = true := by decide +kernel
theorem cW_1 : ckW 1 = true := by decide +kernel
theorem cW_2 : ckW 2 = true := by decide +kernel
theorem cW_3 : ckW 3 = true := by decide +kernel
theorem cW_4 : ckW 4 = true := by decide +kernel
theorem cW_5 : ckW 5 = true := by decide +kernel
theorem cW_6 : ckW 6 = true := by decide +kernel
theorem cW_7 : ckW 7 = true := by decide +kernel
theorem cW_8 : ckW 8 = true := by decide +kernel
theorem cW_9 : ckW 9 = true := by decide +kernel
theorem cW_10 : ckW 10 = true := by decide +kernel
theorem cW_11 : ckW 11 = true := by decide +kernel
theorem cW_12 : ckW 12 = true := by decide +kernel
theorem cW_13 : ckW 13 = true := by decide +kernel
theorem cW_14 : ckW 14 = true := by decide +kernel
theorem cW_15 : ckW 15 = true := by decide +kernel
theorem cW_16 : ckW 16 = true := by decide +kernel
theorem cW_17 : ckW 17 = true := by decide +kernel
theorem cW_18 : ckW 18 = true := by decide +kernel
theorem cW_19 : ckW 19 = true := by decide +kernel
theorem cW_20 : ckW 20 = true := by decide +kernel
theorem cW_21 : ckW 21 = true := by decide +kernel
theorem cW_22 : ckW 22 = true := by decide +kernel
theorem cW_23 : ckW 23 = true := by decide +kernel
theorem cW_24 : ckW 24 = true := by decide +kernel
theorem cW_25 : ckW 25 = true := by decide +kernel
theorem cW_26 : ckW 26 = true := by decide +kernel
theorem cW_27 : ckW 27 = true := by decide +kernel
theorem cW_28 : ckW 28 = true := by decide +kernel
theorem cW_29 : ckW 29 = true := by decide +kernel
theorem cW_30 : ckW 30 = true := by decide +kernel
theorem cW_31 : ckW 31 = true := by decide +kernel
theorem cW_32 : ckW 32 = true := by decide +kernel
theorem cW_33 : ckW 33 = true := by decide +kernel
theorem cW_34 : ckW 34 = true := by decide +kernel
theorem cW_35 : ckW 35 = true := by decide +kernel
theorem cW_36 : ckW 36 = true := by decide +kernel
theorem cW_37 : ckW 37 = true := by decide +kernel
theorem cW_38 : ckW 38 = true := by decide +kernel
theorem cW_39 : ckW 39 = true := by decide +kernel
theorem cW_40 : ckW 40 = true := by decide +kernel
theorem cW_41 : ckW 41 = true := by decide +kernel
theorem cW_42 : ckW 42 = true := by decide +kernel
theorem cW_43 : ckW 43 = true := by decide +kernel
theorem cW_44 : ckW 44 = true := by decide +kernel
theorem cW_45 : ckW 45 = true := by decide +kernel
theorem cW_46 : ckW 46 = true := by decide +kernel
theorem cW_47 : ckW 47 = true := by decide +kernel
theorem cW_48 : ckW 48 = true := by decide +kernel
theorem cW_49 : ckW 49 = true := by decide +kernel
theorem cW_50 : ckW 50 = true := by decide +kernel
theorem cW_51 : ckW 51 = true := by decide +kernel
theorem cW_52 : ckW 52 = true := by decide +kernel
theorem cW_53 : ckW 53 = true := by decide +kernel
theorem cW_54 : ckW 54 = true := by decide +kernel
theorem cW_55 : ckW 55 = true := by decide +kernel
theorem cW_56 : ckW 56 = true := by decide +kernel
theorem cW_57 : ckW 57 = true := by decide +kernel
theorem cW_58 : ckW 58 = true := by decide +kernel
theorem cW_59 : ckW 59 = true := by decide +kernel
theorem cW_60 : ckW 60 = true := by decide +kernel
end Go.Proofs.YtobolipjgkabhaaDoor

