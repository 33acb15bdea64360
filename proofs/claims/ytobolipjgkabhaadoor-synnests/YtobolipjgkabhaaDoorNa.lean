/- SynNests' texts: cut and parsed. -/
import Derived.Test.YtobolipjgkabhaaDoorSa
import Derived.Test.YtobolipjgkabhaaDoorBt
namespace Go.Proofs.YtobolipjgkabhaaDoor
open Go.RowKit
set_option linter.unusedVariables false
set_option linter.unusedSimpArgs false

/-- What is written ahead of the number, and behind it, n times. -/
def opN : Nat → List UInt8 × List UInt8
  | 0 => ([40], [41])
  | 1 => ([45], [])
  | 2 => ([105, 102, 32, 116, 114, 117, 101, 32, 116, 104, 101, 110, 32], [32, 101, 108, 115, 101, 32, 49])
  | _ => ([109, 105, 110, 40, 49, 44, 32], [41])
def repN : Nat → List UInt8 → List UInt8
  | 0, _ => []
  | n + 1, l => repN n l ++ l
def txN (how n : Nat) : List UInt8 := (([114, 117, 108, 101, 32, 97, 32, 99, 111, 117, 110, 116, 32, 61, 32] ++ repN n (opN how).1) ++ [49]) ++ repN n (opN how).2 ++ [59]
theorem repN_left (l : List UInt8) : ∀ n, repN (n + 1) l = l ++ repN n l
  | 0 => by simp [repN]
  | n + 1 => by
    show repN (n + 1) l ++ l = l ++ (repN n l ++ l)
    rw [repN_left l n, List.append_assoc]
/-- What it is asked of a text: it is cut, has no table, and is a tree just if it is not too deep. -/
def OkN (s : ByteArray) (n : Nat) : Prop := ∃ RW, cutF s 0 = (RW, none) ∧ (RW.map (wo s)).all (fun x => !(eqB x.t ⟨#[116, 97, 98, 108, 101]⟩)) = true ∧ match parF (RW.map (wo s)) with | .inr (_, e) => 39 < n ∧ e = 2 | .inl _ => n ≤ 39
def ckN (how n : Nat) : Bool :=
  match cutF (tx (txN how n)) 0 with
  | (_, some _) => false
  | (RW, none) => (RW.map (wo (tx (txN how n)))).all (fun x => !(eqB x.t ⟨#[116, 97, 98, 108, 101]⟩)) &&
    match parF (RW.map (wo (tx (txN how n)))) with
    | .inr (_, e) => decide (39 < n) && e == 2
    | .inl t => decide (n ≤ 39)
theorem ok_ck {how n : Nat} (h : ckN how n = true) : OkN (tx (txN how n)) n := by
  unfold ckN at h
  unfold OkN
  split at h
  · cases h
  · rename_i RW e
    rw [Bool.and_eq_true] at h
    refine ⟨RW, e, h.1, ?_⟩
    have h2 := h.2
    split at h2
    · simpa using h2
    · simpa using h2
/-- A text cut from a place on, its words told in full. -/
def Cw (s : ByteArray) (a : Nat) (L : List Wo) : Prop := ∃ R, cutF s a = (R, none) ∧ R.map (wo s) = L
theorem Cw.word {s : ByteArray} {a n k v : Nat} {c : UInt8} {l t rest : List UInt8} {L : List Wo} (h : tl s a = c :: l) (hb : isBl c = false) (hh : c.toNat ≠ 35) (hw : wd (c :: l) = some (k, n, v)) (ht : (c :: l).take n = t) (hd : (c :: l).drop n = rest) (hr : tl s (a + n) = rest → Cw s (a + n) L) : Cw s a (⟨k, tx t, v, a⟩ :: L) := by
  obtain ⟨h1, h2, h3⟩ := tl_lt h
  obtain ⟨R, hR, hL⟩ := hr (by rw [← tl_drop, h, hd])
  refine ⟨(k, n, v, a) :: R, ?_, ?_⟩
  · rw [cutF_cons h1, h2, hb, if_neg hh, h, hw]
    simp only [Bool.false_eq_true, if_false]
    rw [hR]
  · rw [List.map_cons, hL]
    congr 1
    show Wo.mk k (s.extract a (a + n)) v a = _
    rw [ext_is, h, show a + n - a = n by omega, ht]
theorem Cw.blank {s : ByteArray} {a : Nat} {l : List UInt8} {L : List Wo} (h : tl s a = 32 :: l) (hr : tl s (a + 1) = l → Cw s (a + 1) L) : Cw s a L := by
  obtain ⟨h1, h2, h3⟩ := tl_lt h
  obtain ⟨R, hR, hL⟩ := hr h3
  exact ⟨R, by rw [cutF_cons h1, h2, if_pos (by decide)]; exact hR, hL⟩
theorem Cw.done {s : ByteArray} {a : Nat} (h : tl s a = []) : Cw s a [⟨0, tx [], 0, a⟩] := by
  have hs : s.size ≤ a := by
    rcases Nat.lt_or_ge a s.size with x | x
    · rw [tl_cons x] at h; cases h
    · exact x
  refine ⟨[(0, 0, 0, a)], cutF_end hs, ?_⟩
  rw [List.map_cons, List.map_nil]
  congr 1
  show Wo.mk 0 (s.extract a (a + 0)) 0 a = _
  rw [ext_is, h]
  simp
theorem Cw.ok {s : ByteArray} {n : Nat} {L : List Wo} (h : Cw s 0 L) (h1 : L.all (fun x => !(eqB x.t ⟨#[116, 97, 98, 108, 101]⟩)) = true) (h2 : match parF L with | .inr (_, e) => 39 < n ∧ e = 2 | .inl _ => n ≤ 39) : OkN s n := by
  obtain ⟨R, hR, rfl⟩ := h
  exact ⟨R, hR, h1, h2⟩
def opW : Nat → Nat → List Wo → List Wo
  | 0, _, L => L
  | n + 1, a, L => ⟨2, tx [105, 102], 0, a⟩ :: ⟨2, tx [116, 114, 117, 101], 0, a + 3⟩ :: ⟨2, tx [116, 104, 101, 110], 0, a + 8⟩ :: opW n (a + 13) L
def shW : Nat → Nat → List Wo → List Wo
  | 0, _, L => L
  | n + 1, a, L => ⟨2, tx [101, 108, 115, 101], 0, a + 1⟩ :: ⟨3, tx [49], 1, a + 6⟩ :: shW n (a + 7) L
def wsN (n : Nat) : List Wo := ⟨2, tx [114, 117, 108, 101], 0, 0⟩ :: ⟨1, tx [97], 0, 5⟩ :: ⟨2, tx [99, 111, 117, 110, 116], 0, 7⟩ :: ⟨7, tx [61], 0, 13⟩ :: opW n 15 (⟨3, tx [49], 1, 15 + 13 * n⟩ :: shW n (15 + 13 * n + 1) [⟨7, tx [59], 0, 15 + 13 * n + 1 + 7 * n⟩, ⟨0, tx [], 0, 15 + 13 * n + 1 + 7 * n + 1⟩])
def ckW (n : Nat) : Bool :=
  (wsN n).all (fun x => !(eqB x.t ⟨#[116, 97, 98, 108, 101]⟩)) &&
    match parF (wsN n) with
    | .inr (_, e) => decide (39 < n) && e == 2
    | .inl t => decide (n ≤ 39)
theorem open_W (s : ByteArray) : ∀ (n a : Nat) (rest : List UInt8) (L : List Wo), tl s a = repN n (opN 2).1 ++ rest → (tl s (a + 13 * n) = rest → Cw s (a + 13 * n) L) → Cw s a (opW n a L)
  | 0, a, rest, L, h, k => k h
  | n + 1, a, rest, L, h, k => by
    rw [repN_left, List.append_assoc] at h
    replace h : tl s a = 105 :: 102 :: 32 :: 116 :: 114 :: 117 :: 101 :: 32 :: 116 :: 104 :: 101 :: 110 :: 32 :: (repN n (opN 2).1 ++ rest) := h
    refine Cw.word (k := 2) (n := 2) (v := 0) h (by decide) (by decide) rfl rfl rfl (fun h => ?_)
    refine Cw.blank h (fun h => ?_)
    refine Cw.word (k := 2) (n := 4) (v := 0) h (by decide) (by decide) rfl rfl rfl (fun h => ?_)
    refine Cw.blank h (fun h => ?_)
    refine Cw.word (k := 2) (n := 4) (v := 0) h (by decide) (by decide) rfl rfl rfl (fun h => ?_)
    refine Cw.blank h (fun h => ?_)
    exact open_W s n (a + 13) rest L h (fun h => by rw [show a + 13 + 13 * n = a + 13 * (n + 1) by omega] at h ⊢; exact k h)
theorem one_wd (c : UInt8) (hc : c = 32 ∨ c = 59) (l : List UInt8) : wd (49 :: c :: l) = some (3, 1, 1) := by
  have q : runD (49 :: c :: l) = 1 := by rcases hc with rfl | rfl <;> rfl
  have dw : dotW (c :: l) = 0 := if_neg (fun h => absurd h.1 (by rcases hc with rfl | rfl <;> (show ¬ (_ : UInt8).toNat = 46; decide)))
  have pw : pctW (c :: l) = 0 := by unfold pctW; rw [dw]; rfl
  have e1 : dayW (49 :: c :: l) = none := by
    cases x : dayW (49 :: c :: l) with
    | none => rfl
    | some m =>
      obtain ⟨y1, y2⟩ := dayW_some x
      omega
  have e2 : isPct (49 :: c :: l) = false := by
    unfold isPct
    rw [q]
    show decide (hd ((49 :: c :: l).drop (1 + pctW (c :: l))) = 37) = false
    rw [pw]
    rcases hc with rfl | rfl <;> (show decide ((_ : UInt8).toNat = 37) = false; decide)
  show (if isLet 49 = true then namW (49 :: c :: l) else if (49 : UInt8).toNat = 36 then monW (49 :: c :: l) else if isDig 49 = true then numW (49 :: c :: l) else sgnW (49 :: c :: l)) = _
  rw [if_neg (by decide), if_neg (by decide), if_pos (by decide)]
  unfold numW
  rw [e1]
  dsimp only
  rw [e2, if_neg (by decide), q]
  rfl
theorem shut_W (s : ByteArray) : ∀ (n a : Nat) (L : List Wo), tl s a = repN n (opN 2).2 ++ [59] → (tl s (a + 7 * n) = [59] → Cw s (a + 7 * n) L) → Cw s a (shW n a L)
  | 0, a, L, h, k => k h
  | n + 1, a, L, h, k => by
    rw [repN_left, List.append_assoc] at h
    replace h : tl s a = 32 :: 101 :: 108 :: 115 :: 101 :: 32 :: 49 :: (repN n (opN 2).2 ++ [59]) := h
    refine Cw.blank h (fun h => ?_)
    refine Cw.word (k := 2) (n := 4) (v := 0) h (by decide) (by decide) rfl rfl rfl (fun h => ?_)
    refine Cw.blank h (fun h => ?_)
    obtain ⟨c, l, e, hc⟩ : ∃ c l, repN n (opN 2).2 ++ [59] = c :: l ∧ (c = 32 ∨ c = 59) := by
      cases n with
      | zero => exact ⟨59, [], rfl, .inr rfl⟩
      | succ n => rw [repN_left, List.append_assoc]; exact ⟨32, _, rfl, .inl rfl⟩
    have h' : tl s (a + 1 + 4 + 1) = 49 :: (repN n (opN 2).2 ++ [59]) := h
    rw [e] at h'
    refine Cw.word (c := 49) (l := c :: l) (t := [49]) (rest := repN n (opN 2).2 ++ [59]) h' (by decide) (by decide) (one_wd c hc l) rfl e.symm (fun h => ?_)
    exact shut_W s n (a + 7) L h (fun h => by rw [show a + 7 + 7 * n = a + 7 * (n + 1) by omega] at h ⊢; exact k h)
theorem ok_W {n : Nat} (h : ckW n = true) : OkN (tx (txN 2 n)) n := by
  unfold ckW at h
  rw [Bool.and_eq_true] at h
  refine Cw.ok (L := wsN n) ?_ h.1 (by
    have h2 := h.2
    split at h2
    · simpa using h2
    · simpa using h2)
  have e : tl (tx (txN 2 n)) 0 = 114 :: 117 :: 108 :: 101 :: 32 :: 97 :: 32 :: 99 :: 111 :: 117 :: 110 :: 116 :: 32 :: 61 :: 32 :: (repN n (opN 2).1 ++ 49 :: (repN n (opN 2).2 ++ [59])) := by
    have e0 : tl (tx (txN 2 n)) 0 = txN 2 n := by unfold tl tx; simp
    rw [e0]
    unfold txN
    simp
  refine Cw.word (k := 2) (n := 4) (v := 0) e (by decide) (by decide) rfl rfl rfl (fun h => ?_)
  refine Cw.blank h (fun h => ?_)
  refine Cw.word (k := 1) (n := 1) (v := 0) h (by decide) (by decide) rfl rfl rfl (fun h => ?_)
  refine Cw.blank h (fun h => ?_)
  refine Cw.word (k := 2) (n := 5) (v := 0) h (by decide) (by decide) rfl rfl rfl (fun h => ?_)
  refine Cw.blank h (fun h => ?_)
  refine Cw.word (k := 7) (n := 1) (v := 0) h (by decide) (by decide) rfl rfl rfl (fun h => ?_)
  refine Cw.blank h (fun h => ?_)
  refine open_W _ n 15 _ _ h (fun h => ?_)
  obtain ⟨c, l, e, hc⟩ : ∃ c l, repN n (opN 2).2 ++ [59] = c :: l ∧ (c = 32 ∨ c = 59) := by
    cases n with
    | zero => exact ⟨59, [], rfl, .inr rfl⟩
    | succ n => rw [repN_left, List.append_assoc]; exact ⟨32, _, rfl, .inl rfl⟩
  have h' := h
  rw [e] at h'
  refine Cw.word (c := 49) (l := c :: l) (t := [49]) (rest := repN n (opN 2).2 ++ [59]) h' (by decide) (by decide) (one_wd c hc l) rfl e.symm (fun h => ?_)
  refine shut_W _ n _ _ h (fun h => ?_)
  refine Cw.word (c := 59) (l := []) (n := 1) (k := 7) (v := 0) (rest := []) h (by decide) (by decide) rfl rfl rfl (fun h => ?_)
  exact Cw.done h
end Go.Proofs.YtobolipjgkabhaaDoor
