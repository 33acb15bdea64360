/- The walk over package frame: All, Fits. -/
import Derived.Test.YtblmfkdcahhhbaaDoorI2
namespace Go.Proofs.YtblmfkdcahhhbaaDoor
open Go.RowKit
set_option linter.unusedVariables false
set_option linter.unusedSimpArgs false

/-- Ints in memory. -/
structure Ln (w : World) (a : Option Addr) (n cap : Nat) (P : Nat → Int) : Prop where
  fits : n ≤ cap
  max : cap ≤ maxLen
  nil : a = none → cap = 0
  cell : ∃ g, (0 < n → a = some ⟨g, 0, none⟩) ∧ ∀ i, i < n → w.cell? ⟨g, i, none⟩ = some (.int .i64 (P i))
theorem Ln.below {w w' : World} {a : Option Addr} {n cap : Nat} {P : Nat → Int} (h : Ln w a n cap P) (b : Below w.heap.size w w') : Ln w' a n cap P := by
  obtain ⟨g, h1, h2⟩ := h.cell
  exact ⟨h.fits, h.max, h.nil, g, h1, fun i hi => (b.cell (p := ⟨g, i, none⟩) (World.block_lt_of_cell? _ _ (h2 i hi))).trans (h2 i hi)⟩
theorem Ln.of_own {w : World} {lo n : Nat} {v : Value} {P : Nat → Int} (h : w.ownsRow lo 3 1 v n ((List.range n).map fun i => Value.int .i64 (P i))) : ∃ a cap, v = .slice a n cap ∧ Ln w a n cap P ∧ (∀ x, a = some x → lo ≤ x.block) := by
  have hh := h
  rcases h.2 with ⟨rfl, h0⟩ | ⟨g, cap, cur, rfl, hb, hg, hn, hm, hs, ht⟩
  · exact ⟨none, 0, by rw [h0], ⟨by omega, Nat.zero_le _, fun _ => rfl, 0, fun p => by omega, fun i hi => by omega⟩, fun x hx => by cases hx⟩
  · refine ⟨_, cap, rfl, ⟨hn, hm, (fun e => (by cases e)), g, fun _ => rfl, fun i hi => ?_⟩, fun x hx => by cases hx; exact hb⟩
    have e := hh.cells (g := g) rfl i (.int .i64 (P i)) (by rw [List.getElem?_map, List.getElem?_range hi]; rfl)
    rw [Addr.add_mid, Nat.zero_add] at e
    exact e
theorem Ln.news {w : World} {x : Addr} {n cap : Nat} {P : Nat → Int} (h : Ln w (some x) n cap P) : ∀ j u, ((List.range n).map fun i => Value.int .i64 (P i))[j]? = some u → w.cell? (x.add j) = some u := fun j u hu => by
  obtain ⟨g', h1, h2⟩ := h.cell
  rcases Nat.lt_or_ge j n with q | q
  · rw [List.getElem?_map, List.getElem?_range q] at hu
    have e := h1 (by omega)
    simp at e hu
    subst e; subst hu
    rw [Addr.add_mid, Nat.zero_add]; exact h2 j q
  · rw [List.getElem?_eq_none (by simpa using q)] at hu; cases hu
theorem ownI0 (w : World) : (w.alloc (.cells #[] 3)).ownsRow w.heap.size 3 1 (.slice (some ⟨w.heap.size, 0, none⟩) 0 0) 0 [] :=
  ⟨rfl, .inr ⟨w.heap.size, 0, #[], rfl, Nat.le_refl _, heap_alloc_last w _, Nat.le_refl _, Nat.zero_le _, rfl, rfl⟩⟩
theorem eq_nilI (w : World) (a : Option Addr) (l c : Nat) : (binOp .eql 58 (.slice a l c) (.slice none 0 0)).run Tryd.prog w = .ok (.bool a.isNone) w := by
  have h : ∀ d : Nat, (Op.equalIn (d + 1) 58 (.slice a l c) (.slice none 0 0)).run Tryd.prog w = .ok a.isNone w := fun d => by
    cases a <;> simp [Op.equalIn, run_underlying Tryd.underlying58]
  simp only [binOp]
  simp [Op.equal, Op.maxDepth, h 9999]
/-- What All answers. -/
structure AllP (w : World) (n : Nat) (P : Nat → Int) (e : Ending) (w' : World) : Prop where
  ret : ∃ a cap, e = .returned (.slice a n cap) ∧ Ln w' a n cap P
  bel : Below w.heap.size w w'
set_option maxHeartbeats 1000000 in
theorem CloneInts_any (a : Option Addr) (n cap : Nat) (P : Nat → Int) (w : World) (h : Ln w a n cap P) (hn : n ≤ 100000) :
    Calls Tryd.prog 49 #[.slice a n cap] w fun e w' => AllP w n P e w' := by
  obtain ⟨i0, hi, hz0, hz1, hz2⟩ := info_parts intInfo
  have H : Hid _ := h
  clear h
  cases a with
  | none =>
    have E : (binOp .eql 58 (.slice none n cap) (.slice none 0 0)).run Tryd.prog w = .ok (.bool true) w := eq_nilI w none n cap
    have hc := H.out.nil rfl
    have hf := H.out.fits
    obtain ⟨rfl, rfl⟩ : n = 0 ∧ cap = 0 := by omega
    go_enter Tryd.func49, Tryd.ntmps49
    go_wp2
    go_ret
    exact ⟨⟨none, 0, rfl, H.out⟩, Below.refl _ _⟩
  | some x =>
    have E : (binOp .eql 58 (.slice (some x) n cap) (.slice none 0 0)).run Tryd.prog w = .ok (.bool false) w := eq_nilI w (some x) n cap
    go_enter Tryd.func49, Tryd.ntmps49
    go_wp2_with (at_builtin; refine wpList_append_own _ rfl (.tmp 5) (.tmp 6) 58 rfl w.heap.size 3 i0 (.int .i64 0) 1 8 Tryd.underlying58 hi hz0 hz1 hz2 rfl (by decide) _ 0 [] rfl (ownI0 w) x n cap ((List.range n).map fun i => Value.int .i64 (P i)) rfl (by simp) (H.out.below (allocB w _)).news (fun u hu => by obtain ⟨i, -, rfl⟩ := List.mem_map.1 hu; rfl) (by unfold maxLen; omega) (by omega) (by simp) ?_; intro v2 w2 o2 g2 _)
    go_ret
    rw [Nat.zero_add, List.nil_append] at o2
    obtain ⟨a, cap2, rfl, l2, -⟩ := Ln.of_own o2
    exact ⟨⟨a, cap2, rfl, l2⟩, (allocB w _).grown g2 (by simp) (fun k hk => ((ownI0 w).lt k hk).1)⟩
def posI (fs : List Fa) (i : Nat) : Int := ((fs.getD i ⟨0, 0, []⟩).pos : Int)
theorem posI_at {fs : List Fa} {i : Nat} (h : i < fs.length) : posI fs i = ((fs[i]).pos : Int) := by unfold posI; rw [List.getD_eq_getElem?_getD, List.getElem?_eq_getElem h]; rfl
theorem Am.ln {w : World} {pa p : Nat} {ar : Ar} {v : Value} (h : Am w pa p ar v) : ∃ a cap, v = .slice a ar.fs.length cap ∧ Ln w a ar.fs.length cap (posI ar.fs) := by
  obtain ⟨a, cap, e, f1, f2, f3, g, h1, h2⟩ := h.form
  exact ⟨a, cap, e, f1, f2, f3, g, h1, fun i hi => by rw [posI_at hi]; exact h2 i hi⟩
set_option maxHeartbeats 1000000 in
theorem All_any (w : World) (pa p : Nat) (ar : Ar) (v : Value) (h : Am w pa p ar v) (hn : ar.fs.length ≤ 100000) :
    Calls Tryd.prog 26 #[.pointer (some ⟨pa, 0, none⟩)] w fun e w' => AllP w ar.fs.length (posI ar.fs) e w' := by
  obtain ⟨a, cap, rfl, l⟩ := h.ln
  have c5 := h.c5
  have pl := h.lt
  have CI : Hid _ := CloneInts_any a _ cap _ w l hn
  clear h l
  go_enter Tryd.func26, Tryd.ntmps26
  go_wp2_with (go_at_call 49; refine Calls.mono CI.out ?_; rintro e w1 ⟨⟨a1, c1, rfl, l1⟩, b1⟩)
  go_ret
  exact ⟨⟨a1, c1, rfl, l1⟩, b1⟩

/-- What Fits answers. -/
def fitN (P : Nat → Int) : Nat → Option Nat
  | 0 => some 0
  | k + 1 => match fitN P k with
    | none => none
    | some t => if 0 ≤ P k ∧ P k ≤ 1000 then some (t + fsize (P k).toNat) else none
def fitB (P : Nat → Int) (n : Nat) (s : Int) : Bool := match fitN P n with
  | none => false
  | some t => decide ((t : Int) ≤ s)
theorem fitN_none {P : Nat → Int} {k : Nat} (h : fitN P k = none) : ∀ {n}, k ≤ n → fitN P n = none := by
  intro n hn
  induction n with
  | zero => obtain rfl : k = 0 := by omega
            exact h
  | succ n ih =>
    rcases Nat.eq_or_lt_of_le hn with e | e
    · rw [← e]; exact h
    · unfold fitN; rw [ih (by omega)]
set_option maxHeartbeats 2000000 in
theorem Fits_any (s : Int) (a : Option Addr) (n cap : Nat) (P : Nat → Int) (w : World) (h : Ln w a n cap P) (hn : n ≤ 100000) :
    Calls Tryd.prog 14 #[.int .i64 s, .slice a n cap] w fun e w' => e = .returned (.bool (fitB P n s)) ∧ w = w' := by
  obtain ⟨g, h1, h2⟩ := h.cell
  have H1 : Hid _ := h1
  have H2 : Hid _ := h2
  have hn' : (n : Int) ≤ 100000 := by omega
  clear h h1 h2
  go_enter Tryd.func14, Tryd.ntmps14
  go_wp2_with fail
  go_loopg [5, 11] n (fun gg tv iv wr => ∃ (k t : Nat), k ≤ n ∧ gg = n - k ∧ tv = .int .i64 (t : Nat) ∧ iv = .int .i64 (k : Nat) ∧ wr = w ∧ t ≤ 17 * k ∧ Hid (fitN P k = some t))
  case atStart => exact ⟨0, 0, Nat.zero_le _, rfl, rfl, rfl, rfl, by omega, rfl⟩
  case round =>
    obtain ⟨k, t, hk, rfl, rfl, rfl, rfl, ht, hF⟩ := hrel
    have t' : (t : Int) ≤ 1700000 := by omega
    by_cases q : k < n
    · have q' : (k : Int) < (n : Int) := by omega
      obtain rfl := H1.out (by omega)
      have e1 := H2.out k q
      by_cases q2 : 0 ≤ P k ∧ P k ≤ 1000
      · obtain ⟨x, hx⟩ : ∃ x : Nat, (x : Int) = P k := ⟨(P k).toNat, by omega⟩
        rw [← hx] at e1
        have SZ : Hid _ := Size_any x wr (by omega)
        have fp := fsize_pos x
        have fl : fsize x ≤ 17 := fsize_le (by omega)
        have F2 : Hid (fitN P (k + 1) = some (t + fsize x)) := by
          show _ = _
          rw [fitN, hF.out, ← hx]
          simp only
          rw [if_pos (by omega)]
          simp
        have fp' : ((fsize x : Nat) : Int) ≠ 0 := by omega
        clear hx q2
        go_wp2_with (go_at_call 13; refine Calls.mono SZ.out ?_; rintro e w1 ⟨rfl, rfl⟩)
        go_roundg (n - (k + 1))
        case rel => exact ⟨k + 1, t + fsize x, q, rfl, by congr 1, by congr 1, rfl, by omega, F2.out⟩
        case measure => omega
      · have SZ : Hid _ := Size_no (P k) wr (by omega)
        have F2 : Hid (fitB P n s = false) := by
          show _ = _
          unfold fitB
          rw [fitN_none (k := k + 1) (by rw [fitN, hF.out]; simp only; rw [if_neg q2]) q]
        clear q2
        go_wp2_with (go_at_call 13; refine Calls.mono SZ.out ?_; rintro e w1 ⟨rfl, rfl⟩)
        go_ret
        exact ⟨by rw [F2.out]; rfl, rfl⟩
    · obtain rfl : k = n := by omega
      go_wp2
      go_ret
      exact ⟨by unfold fitB; rw [hF.out]; rfl, rfl⟩

end Go.Proofs.YtblmfkdcahhhbaaDoor
