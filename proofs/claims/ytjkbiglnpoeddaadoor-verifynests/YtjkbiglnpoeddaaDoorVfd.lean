/- The walks over verify's halts and operands. -/
import Derived.Test.YtjkbiglnpoeddaaDoorVfc
namespace Go.Proofs.YtjkbiglnpoeddaaDoor.Vf
open Go.RowKit
set_option linter.unusedVariables false
set_option linter.unusedSimpArgs false

/-- The first place where it does not hold. -/
def frstP (q : Nat → Ins → Bool) : Nat → List Ins → Option Nat
  | _, [] => none
  | k, i :: r => if q k i = true then frstP q (k + 1) r else some k
theorem frst_go {q : Nat → Ins → Bool} : ∀ (l : List Ins) (k n : Nat), (∀ j x, j < n → l[j]? = some x → q (k + j) x = true) → frstP q k l = frstP q (k + n) (l.drop n)
  | [], k, n, _ => by simp [frstP]
  | x :: r, k, 0, _ => rfl
  | x :: r, k, n + 1, h => by
    have e := frst_go r (k + 1) n fun j y hj hy => by rw [show k + 1 + j = k + (j + 1) by omega]; exact h (j + 1) y (by omega) (by simpa using hy)
    have h0 := h 0 x (by omega) rfl
    rw [Nat.add_zero] at h0
    rw [List.drop_succ_cons, show k + (n + 1) = k + 1 + n by omega, ← e]
    show (if q k x = true then _ else _) = _
    rw [if_pos h0]
theorem frst_at {q : Nat → Ins → Bool} {l : List Ins} {n : Nat} {x : Ins} (h : ∀ j x, j < n → l[j]? = some x → q j x = true) (hx : l[n]? = some x) (hq : q n x = false) : frstP q 0 l = some n := by
  rw [frst_go l 0 n (fun j y hj hy => by rw [Nat.zero_add]; exact h j y hj hy), Nat.zero_add]
  have hn : n < l.length := (List.getElem?_eq_some_iff.1 hx).1
  rw [List.drop_eq_getElem_cons hn]
  have e : l[n] = x := (List.getElem?_eq_some_iff.1 hx).2
  show (if q n l[n] = true then _ else _) = _
  rw [e, hq]
  rfl
theorem frst_no {q : Nat → Ins → Bool} {l : List Ins} (h : ∀ j x, j < l.length → l[j]? = some x → q j x = true) : frstP q 0 l = none := by
  rw [frst_go l 0 l.length (fun j y hj hy => by rw [Nat.zero_add]; exact h j y hj hy), List.drop_length]
  rfl
theorem frst_none {q : Nat → Ins → Bool} : ∀ (l : List Ins) (k : Nat), frstP q k l = none → ∀ j x, l[j]? = some x → q (k + j) x = true
  | [], k, _, j, x, hx => by simp at hx
  | y :: r, k, h, j, x, hx => by
    unfold frstP at h
    split at h
    · rename_i h0
      cases j with
      | zero => simp at hx; subst hx; exact h0
      | succ j => rw [show k + (j + 1) = k + 1 + j by omega]; exact frst_none r (k + 1) h j x (by simpa using hx)
    · cases h
theorem next_all {q : Nat → Ins → Bool} {l : List Ins} {n : Nat} {x : Ins} (h : ∀ j x, j < n → l[j]? = some x → q j x = true) (hx : l[n]? = some x) (hq : q n x = true) : ∀ j x, j < n + 1 → l[j]? = some x → q j x = true := fun j y hj hy => by
  by_cases e : j = n
  · subst e; rw [hx] at hy; injection hy with hy; subst hy; exact hq
  · exact h j y (by omega) hy
/-- What a rule of instructions answers: the place of its first fault and false, or true. -/
def resO : Option Nat → Value
  | none => .tuple #[.int .i64 0, .bool true]
  | some k => .tuple #[.int .i64 (k : Nat), .bool false]
/-- The instructions of a program in memory. -/
theorem ins_all {w : World} {a : Option Addr} {m : Nat} {xs : List Ins} (h : Vw aN 4 w a m xs) (hm : 0 < m) : ∃ g o : Nat, a = some ⟨g, o, none⟩ ∧ ∀ (i : Nat) (x : Ins), xs[i]? = some x → w.cell? ⟨g, o + i * 4, none⟩ = some (.int .i64 x.1) ∧ w.cell? ⟨g, o + i * 4 + 1, none⟩ = some (.int .i64 x.2.1) ∧ w.cell? ⟨g, o + i * 4 + 2, none⟩ = some (.int .i64 x.2.2.1) ∧ w.cell? ⟨g, o + i * 4 + 3, none⟩ = some (.int .i64 x.2.2.2) := by
  obtain ⟨g, o, h1, h2⟩ := h.at_
  exact ⟨g, o, h1 hm, fun i x hx => by obtain ⟨q0, q1, q2, q3, _⟩ := h2 i x hx; exact ⟨q0, q1, q2, q3⟩⟩
theorem Vw.ex {α : Type} {A : World → Nat → Nat → α → Prop} {k : Nat} {w : World} {a : Option Addr} {m : Nat} {xs : List α} (h : Vw A k w a m xs) {i : Nat} (hi : i < m) : ∃ x, xs[i]? = some x := ⟨_, List.getElem?_eq_getElem (by rw [h.len]; exact hi)⟩
def hlB (n k : Nat) (i : Ins) : Bool := decide (k + 1 = n) == decide (i.1 = 23)
def haltsF (p : Pg) : Option Nat := frstP (hlB p.co.length) 0 p.co
def opsF (p : Pg) : Option Nat := frstP (fun _ i => thB p i) 0 p.co
set_option maxRecDepth 100000 in
set_option maxHeartbeats 8000000 in
theorem operands_any {w : World} {c : Nat} {s : S7} {p : Pg} {lv : Value} {st sk : Int} (hC : Ck w c s lv st sk) (hP : Pv w s p) (hT : RT w) (hm : s.m4 ≤ 1000000) (hn : s.m6 ≤ 1000000) (h0 : 0 < s.m6) :
    Calls Tryd.prog 10 #[.pointer (some ⟨c, 0, none⟩)] w fun e w' => e = .returned (resO (opsF p)) ∧ Below w.heap.size w w' := by
  have HL := hP.k6.len
  obtain ⟨R, hR⟩ : ∃ R, opsF p = R := ⟨_, rfl⟩
  have RH := hid hR
  rw [hR]
  have C := hid hC
  have V := hid hP
  have T := hid hT
  have L := hid HL
  obtain ⟨g, o, ea, hI⟩ := ins_all hP.k6 h0
  have IC := hid hI
  have c6 : w.cell? ⟨c, 6, none⟩ = some (.slice (some ⟨g, o, none⟩) s.m6 s.c6) := by rw [← ea]; exact hC.cell 6 _ rfl
  have mb : (s.m6 : Int) ≤ 1000000 := by omega
  clear hC hP hT HL hR hI ea
  go_enter Tryd.func10, Tryd.ntmps10
  go_wp2_with fail
  go_loopg [12] (s.m6) (fun g kv wr => ∃ i : Nat, i ≤ s.m6 ∧ g = s.m6 - i ∧ kv = .int .i64 (i : Nat) ∧ Hid (Below w.heap.size w wr) ∧ Hid (∀ j x, j < i → p.co[j]? = some x → thB p x = true))
  case atStart => exact ⟨0, Nat.zero_le _, rfl, rfl, Below.refl _ _, fun j x hj => by omega⟩
  case round =>
    obtain ⟨i, hi, rfl, rfl, HB, HA⟩ := hrel
    by_cases q : i < s.m6
    · have q' : (i : Int) < (s.m6 : Int) := by omega
      obtain ⟨x, hx⟩ := Vw.ex V.out.k6 q
      obtain ⟨h0, h1, h2, h3⟩ := IC.out i x hx
      have k0 := celB HB.out h0
      have k1 := celB HB.out h1
      have k2 := celB HB.out h2
      have k3 := celB HB.out h3
      have X3 := hid (Bx.new wr #[.int .i64 x.1, .int .i64 x.2.1, .int .i64 x.2.2.1, .int .i64 x.2.2.2] 37 (by decide))
      have B3 := hid (nxB HB.out (allocB wr (.cells #[.int .i64 x.1, .int .i64 x.2.1, .int .i64 x.2.2.1, .int .i64 x.2.2.2] 37)))
      have HX := hid hx
      clear h0 h1 h2 h3 hx HB
      go_upto_region 4 with fail
      clear k0 k1 k2 k3
      generalize World.alloc wr _ = w3 at *
      generalize wr.heap.size = xb at *
      have x0 := X3.out.cell 0 _ rfl
      have x1 := X3.out.cell 1 _ rfl
      have x2 := X3.out.cell 2 _ rfl
      have x3 := X3.out.cell 3 _ rfl
      have KT := hid (isThere_any (Bx.next C.out B3.out) (V.out.next B3.out) (T.out.next B3.out) hm x)
      cases z : thB p x with
      | true =>
        rw [z] at KT
        have HZ := hid z
        clear z
        go_wp2_with (go_at_call 22; (with_reducible refine Calls.mono KT.out ?_); rintro e w4 ⟨rfl, b4⟩; have B4 := hid (nxB B3.out b4); clear b4)
        go_roundg (s.m6 - (i + 1))
        case measure => omega
        case rel => exact ⟨i + 1, by omega, rfl, by rw [Int.natCast_add]; rfl, B4.out, next_all HA.out HX.out HZ.out⟩
      | false =>
        rw [z] at KT
        have HF := hid (show R = some i from by rw [← RH.out]; exact frst_at HA.out HX.out z)
        clear z
        go_wp2_with (go_at_call 22; (with_reducible refine Calls.mono KT.out ?_); rintro e w4 ⟨rfl, b4⟩; have B4 := hid (nxB B3.out b4); clear b4)
        go_returns
        exact ⟨by rw [HF.out]; rfl, B4.out⟩
    · have q' : ¬ (i : Int) < (s.m6 : Int) := by omega
      have HF := hid (show R = none from by rw [← RH.out]; exact frst_no fun j x hj hx => HA.out j x (by have := L.out; omega) hx)
      go_wp2_with fail
      go_returns
      exact ⟨by rw [HF.out]; rfl, HB.out⟩
set_option maxRecDepth 100000 in
set_option maxHeartbeats 8000000 in
theorem halts_any {w : World} {c : Nat} {s : S7} {p : Pg} {lv : Value} {st sk : Int} (hC : Ck w c s lv st sk) (hP : Pv w s p) (hT : RT w) (hn : s.m6 ≤ 1000000) (h0 : 0 < s.m6) :
    Calls Tryd.prog 9 #[.pointer (some ⟨c, 0, none⟩)] w fun e w' => e = .returned (resO (haltsF p)) ∧ Below w.heap.size w w' := by
  have HL := hP.k6.len
  obtain ⟨R, hR⟩ : ∃ R, haltsF p = R := ⟨_, rfl⟩
  have RH := hid hR
  rw [hR]
  have C := hid hC
  have V := hid hP
  have T := hid hT
  have L := hid HL
  obtain ⟨g, o, ea, hI⟩ := ins_all hP.k6 h0
  have IC := hid hI
  have c6 : w.cell? ⟨c, 6, none⟩ = some (.slice (some ⟨g, o, none⟩) s.m6 s.c6) := by rw [← ea]; exact hC.cell 6 _ rfl
  have mb : (s.m6 : Int) ≤ 1000000 := by omega
  have C6 := hid c6
  clear hC hP hT HL hR hI ea
  go_enter Tryd.func9, Tryd.ntmps9
  go_wp2_with fail
  go_loopg [13] (s.m6) (fun g kv wr => ∃ i : Nat, i ≤ s.m6 ∧ g = s.m6 - i ∧ kv = .int .i64 (i : Nat) ∧ Hid (Below w.heap.size w wr) ∧ Hid (∀ j x, j < i → p.co[j]? = some x → hlB p.co.length j x = true))
  case atStart => exact ⟨0, Nat.zero_le _, rfl, rfl, Below.refl _ _, fun j x hj => by omega⟩
  case round =>
    obtain ⟨i, hi, rfl, rfl, HB, HA⟩ := hrel
    by_cases q : i < s.m6
    · have q' : (i : Int) < (s.m6 : Int) := by omega
      obtain ⟨x, hx⟩ := Vw.ex V.out.k6 q
      obtain ⟨h0, h1, h2, h3⟩ := IC.out i x hx
      have k0 := celB HB.out h0
      have k1 := celB HB.out h1
      have k2 := celB HB.out h2
      have k3 := celB HB.out h3
      have X3 := hid (Bx.new wr #[.int .i64 x.1, .int .i64 x.2.1, .int .i64 x.2.2.1, .int .i64 x.2.2.2] 37 (by decide))
      have B3 := hid (nxB HB.out (allocB wr (.cells #[.int .i64 x.1, .int .i64 x.2.1, .int .i64 x.2.2.1, .int .i64 x.2.2.2] 37)))
      have HX := hid hx
      clear h0 h1 h2 h3 hx HB
      go_upto_region 4 with fail
      clear k0 k1 k2 k3
      generalize World.alloc wr _ = w3 at *
      generalize wr.heap.size = xb at *
      have x0 := X3.out.cell 0 _ rfl
      have x1 := X3.out.cell 1 _ rfl
      have x2 := X3.out.cell 2 _ rfl
      have x3 := X3.out.cell 3 _ rfl
      have KN := hid (code_Name_any x.1 w3 (T.out.next B3.out))
      have c6 := celB B3.out C6.out
      obtain ⟨nm, hnm⟩ : ∃ nm, opN x.1 = nm := ⟨_, rfl⟩
      rw [hnm] at KN
      have NZ : (nm.toList == [104, 97, 108, 116]) = decide (x.1 = 23) := by rw [← hnm]; exact nm_is x.1 23 _ rfl
      have HZ := hid (show hlB p.co.length i x = (decide (i + 1 = s.m6) == decide (x.1 = 23)) from by unfold hlB; rw [L.out])
      clear hnm
      by_cases za : i + 1 = s.m6
      · have ya : ((i : Int) == (s.m6 : Int) - 1) = true := by simp; omega
        by_cases zn : x.1 = 23
        · skip
          have HZ := hid (show hlB p.co.length i x = true from by rw [HZ.out, decide_eq_true za, decide_eq_true zn]; rfl)
          rw [decide_eq_true zn] at NZ
          clear zn za
          go_wp2_with (go_at_call 21; (with_reducible refine Calls.mono KN.out ?_); rintro e w4 ⟨rfl, b4⟩; have B4 := hid (nxB B3.out b4); clear b4)
          go_roundg (s.m6 - (i + 1))
          case measure => omega
          case rel => exact ⟨i + 1, by omega, rfl, by rw [Int.natCast_add]; rfl, B4.out, next_all HA.out HX.out HZ.out⟩
        · skip
          have HZ := hid (show hlB p.co.length i x = false from by rw [HZ.out, decide_eq_true za, decide_eq_false zn]; rfl)
          rw [decide_eq_false zn] at NZ
          have HF := hid (show R = some i from by rw [← RH.out]; exact frst_at HA.out HX.out HZ.out)
          clear zn za
          go_wp2_with (go_at_call 21; (with_reducible refine Calls.mono KN.out ?_); rintro e w4 ⟨rfl, b4⟩; have B4 := hid (nxB B3.out b4); clear b4)
          go_returns
          exact ⟨by rw [HF.out]; rfl, B4.out⟩
      · have ya : ((i : Int) == (s.m6 : Int) - 1) = false := by simp; omega
        by_cases zn : x.1 = 23
        · skip
          have HZ := hid (show hlB p.co.length i x = false from by rw [HZ.out, decide_eq_false za, decide_eq_true zn]; rfl)
          rw [decide_eq_true zn] at NZ
          have HF := hid (show R = some i from by rw [← RH.out]; exact frst_at HA.out HX.out HZ.out)
          clear zn za
          go_wp2_with (go_at_call 21; (with_reducible refine Calls.mono KN.out ?_); rintro e w4 ⟨rfl, b4⟩; have B4 := hid (nxB B3.out b4); clear b4)
          go_returns
          exact ⟨by rw [HF.out]; rfl, B4.out⟩
        · skip
          have HZ := hid (show hlB p.co.length i x = true from by rw [HZ.out, decide_eq_false za, decide_eq_false zn]; rfl)
          rw [decide_eq_false zn] at NZ
          clear zn za
          go_wp2_with (go_at_call 21; (with_reducible refine Calls.mono KN.out ?_); rintro e w4 ⟨rfl, b4⟩; have B4 := hid (nxB B3.out b4); clear b4)
          go_roundg (s.m6 - (i + 1))
          case measure => omega
          case rel => exact ⟨i + 1, by omega, rfl, by rw [Int.natCast_add]; rfl, B4.out, next_all HA.out HX.out HZ.out⟩
    · have q' : ¬ (i : Int) < (s.m6 : Int) := by omega
      have HF := hid (show R = none from by rw [← RH.out]; exact frst_no fun j x hj hx => HA.out j x (by have := L.out; omega) hx)
      go_wp2_with fail
      go_returns
      exact ⟨by rw [HF.out]; rfl, HB.out⟩

end Go.Proofs.YtjkbiglnpoeddaaDoor.Vf
