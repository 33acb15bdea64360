/- The walk over verify's step of the stack. -/
import Derived.Test.YtjkbiglnpoeddaaDoorVfn
namespace Go.Proofs.YtjkbiglnpoeddaaDoor.Vf
open Go.RowKit
set_option linter.unusedVariables false
set_option linter.unusedSimpArgs false

/-- The stack behind an instruction: the first top that it may take. -/
def stk1 (st pu : ByteArray) : List ByteArray → Option ByteArray
  | [] => none
  | t :: r => if (cuF st t).2 = true then some ((cuF st t).1 ++ pu) else stk1 st pu r
def stkO (i : Ins) : Option ByteArray → ByteArray × Bool
  | none => (⟨#[]⟩, false)
  | some s => (s, decide (s.size ≤ 64) && !(decide (i.1 = 23) && !(s.toList == [])))
def stkM (sk : Int) : Option ByteArray → Int
  | none => sk
  | some s => if sk < ((s.size : Nat) : Int) then ((s.size : Nat) : Int) else sk
def stkF (p : Pg) (i : Ins) (st : ByteArray) : Option ByteArray := stk1 st (puF p i) (tkF p i)
theorem nx_no {α : Type} {f : α → Bool} {ls : List α} {n : Nat} {x : α} (h : ∀ (k : Nat) l, k < n → ls[k]? = some l → f l = false) (hx : ls[n]? = some x) (hq : f x = false) : ∀ (k : Nat) l, k < n + 1 → ls[k]? = some l → f l = false := fun j y hj hy => by
  by_cases e : j = n
  · subst e; rw [hx] at hy; injection hy with hy; subst hy; exact hq
  · exact h j y (by omega) hy
theorem stk1_go {st pu : ByteArray} : ∀ (l : List ByteArray) (n : Nat), (∀ (j : Nat) t, j < n → l[j]? = some t → (cuF st t).2 = false) → stk1 st pu l = stk1 st pu (l.drop n)
  | [], n, _ => by simp
  | x :: r, 0, _ => rfl
  | x :: r, n + 1, h => by
    have h0 := h 0 x (by omega) rfl
    rw [List.drop_succ_cons, ← stk1_go r n fun j y hj hy => h (j + 1) y (by omega) (by simpa using hy)]
    show (if (cuF st x).2 = true then _ else _) = _
    rw [if_neg (by rw [h0]; decide)]
theorem stk1_at {st pu : ByteArray} {l : List ByteArray} {n : Nat} {t : ByteArray} (h : ∀ (j : Nat) t, j < n → l[j]? = some t → (cuF st t).2 = false) (hx : l[n]? = some t) (hq : (cuF st t).2 = true) : stk1 st pu l = some ((cuF st t).1 ++ pu) := by
  rw [stk1_go l n h]
  have hn : n < l.length := (List.getElem?_eq_some_iff.1 hx).1
  rw [List.drop_eq_getElem_cons hn]
  have e : l[n] = t := (List.getElem?_eq_some_iff.1 hx).2
  show (if (cuF st l[n]).2 = true then _ else _) = _
  rw [e, if_pos hq]
theorem stk1_no {st pu : ByteArray} {l : List ByteArray} (h : ∀ (j : Nat) t, j < l.length → l[j]? = some t → (cuF st t).2 = false) : stk1 st pu l = none := by
  rw [stk1_go l l.length h, List.drop_length]
  rfl
theorem tk_len (p : Pg) (i : Ins) (h : Rst i.1) : (tkF p i).length ≤ 19 ∧ (∀ t, t ∈ tkF p i → t.size ≤ 2) ∧ (puF p i).size ≤ 2 := by
  obtain ⟨op, a, b, d⟩ := i
  have k1 : (kd1 1).size ≤ 2 := by decide +kernel
  rcases h with h | h | h | h | h <;> (dsimp only at h; subst h)
  · exact ⟨by show 1 ≤ 19; omega, fun t ht => by rw [show tkF p (9, a, b, d) = [kd1 1] from rfl] at ht; simp at ht; subst ht; exact k1, by show (kd1 1).size ≤ 2; exact k1⟩
  all_goals exact ⟨by show 1 ≤ 19; omega, fun t ht => by (first | rw [show tkF p (17, a, b, d) = [⟨#[]⟩] from rfl] at ht | rw [show tkF p (19, a, b, d) = [⟨#[]⟩] from rfl] at ht | rw [show tkF p (20, a, b, d) = [⟨#[]⟩] from rfl] at ht | rw [show tkF p (23, a, b, d) = [⟨#[]⟩] from rfl] at ht); simp at ht; subst ht; decide, by show (⟨#[]⟩ : ByteArray).size ≤ 2; decide⟩
theorem cu_size (s t : ByteArray) : (cuF s t).1.size ≤ s.size := by
  unfold cuF
  split
  · show (s.extract 0 _).size ≤ _
    rw [ByteArray.size_extract]
    omega
  · exact Nat.le_refl _
structure StP (w w' : World) (c : Nat) (s : S7) (lv : Value) (st sk : Int) : Prop where
  kx : Kx [c] w w'
  ck : Ck w' c s lv st sk
set_option maxRecDepth 100000 in
set_option maxHeartbeats 8000000 in
theorem step_any {w : World} {c bx : Nat} {s : S7} {p : Pg} {lv : Value} {st sk : Int} (hT : RT w) (hC : Ck w c s lv st sk) (hb : w.cell? ⟨bx, 0, none⟩ = some (.pointer (some ⟨c, 0, none⟩))) (i : Ins) (hR : Rst i.1) (sx : ByteArray) (hs : sx.size ≤ 64) (hk : 0 ≤ sk ∧ sk ≤ 1000) (hbc : bx ≠ c) (hgc : 0 ≠ c) :
    Calls Tryd.prog 30 #[.agg #[.int .i64 i.1, .int .i64 i.2.1, .int .i64 i.2.2.1, .int .i64 i.2.2.2], .string sx, .pointer (some ⟨bx, 0, none⟩)] w fun e w' => e = .returned (.tuple #[.string (stkO i (stkF p i sx)).1, .bool (stkO i (stkF p i sx)).2]) ∧ StP w w' c s lv st (stkM sk (stkF p i sx)) := by
  have X1 := hid (Bx.new w #[.int .i64 i.1, .int .i64 i.2.1, .int .i64 i.2.2.1, .int .i64 i.2.2.2] 37 (by decide))
  have B1 := hid (allocB w (.cells #[.int .i64 i.1, .int .i64 i.2.1, .int .i64 i.2.2.1, .int .i64 i.2.2.2] 37))
  obtain ⟨q, hq⟩ : ∃ q, q = w.heap.size := ⟨_, rfl⟩
  have WR := hid hq
  rw [← hq] at X1
  have QC := hid (show q ≠ c from by have := Bx.lt hC; omega)
  clear hq
  have KT := hid (fun W (b : Below w.heap.size w W) => takes_any (c := c) (hT.next b) p i hR)
  have KU := hid (fun W (b : Below w.heap.size w W) => puts_any (c := c) (hT.next b) p i hR)
  have KN := hid (fun W (b : Kx [c] w W) (hg : RT W) => code_Name_any i.1 W hg)
  have TT := hid hT
  have TL := hid (tk_len p i hR)
  have C := hid hC
  have HB := hid hb
  have SX := hid hs
  have SK := hid hk
  have NB := hid hbc
  have NG := hid hgc
  obtain ⟨R, hRR⟩ : ∃ R, stkF p i sx = R := ⟨_, rfl⟩
  have RH := hid (show stk1 sx (puF p i) (tkF p i) = R from hRR)
  rw [hRR]
  clear hT hC hb hR hs hk hbc hgc hRR
  generalize puF p i = pu at *
  generalize tkF p i = tl at *
  go_enter Tryd.func30, Tryd.ntmps30
  go_upto_region 1 with fail
  rw [← WR.out]
  generalize World.alloc w _ = w1 at *
  obtain ⟨x0, x1, x2, x3⟩ := Bx.q4 X1.out
  have cb := celB B1.out HB.out
  go_wp2_with (go_at_call 31; (with_reducible refine Calls.mono (KT.out _ B1.out) ?_); rintro e w2 ⟨⟨ta, tc, rfl, tv⟩, b2⟩; have B2 := hid (nxB B1.out b2); have X2 := hid (Bx.next X1.out b2); have V2 := hid tv; clear b2 tv)
  clear x0 x1 x2 x3 cb X1 B1
  have lb : (tl.length : Int) ≤ 19 := by have := TL.out.1; omega
  go_loopg [1, 16] (tl.length) (fun g sv kv wr => ∃ j : Nat, j ≤ tl.length ∧ g = tl.length - j ∧ sv = .string sx ∧ kv = .int .i64 (j : Nat) ∧ Hid (Below w2.heap.size w2 wr) ∧ Hid (∀ (k : Nat) t, k < j → tl[k]? = some t → (cuF sx t).2 = false))
  case atStart => exact ⟨0, Nat.zero_le _, rfl, rfl, rfl, Below.refl _ _, fun j x hj => by omega⟩
  case round =>
    obtain ⟨j, hj, rfl, rfl, rfl, HW, HA⟩ := hrel
    by_cases qj : j < tl.length
    · have qj' : (j : Int) < (tl.length : Int) := by omega
      obtain ⟨g, o, t, rfl, ht, hc, _⟩ := V2.out.get qj
      have cc : wr.cell? ⟨g, o + j, none⟩ = some (.string t) := by
        have := aX_nx _ _ _ _ _ hc HW.out
        rw [Nat.mul_one] at this
        exact this
      have HT := hid ht
      have ts := hid (TL.out.2.1 t (List.mem_of_getElem? ht))
      have KC := hid (fun W => CutSuffix_any sx t W (by have := SX.out; omega) (by have := ts.out; omega))
      clear hc ht
      cases z : (cuF sx t).2 with
      | false =>
        have ZZ := hid z
        obtain ⟨r1, hr1⟩ : ∃ r1, (cuF sx t).1 = r1 := ⟨_, rfl⟩
        rw [z, hr1] at KC
        clear z hr1
        go_wp2_with (go_at_call 32; (with_reducible refine Calls.mono (KC.out _) ?_); rintro e w4 ⟨rfl, rfl⟩)
        go_roundg (tl.length - (j + 1))
        case measure => omega
        case rel => exact ⟨j + 1, by omega, rfl, rfl, by rw [Int.natCast_add]; rfl, HW.out, nx_no (f := fun t => (cuF sx t).2) HA.out HT.out ZZ.out⟩
      | true =>
        have HS := hid (show R = some ((cuF sx t).1 ++ pu) from by rw [← RH.out]; exact stk1_at HA.out HT.out z)
        have SZ := hid (cu_size sx t)
        obtain ⟨r1, hr1⟩ : ∃ r1, (cuF sx t).1 = r1 := ⟨_, rfl⟩
        rw [hr1] at HS SZ
        rw [z, hr1] at KC
        clear z hr1
        have P1 := hid TL.out.2.2
        have b1 : r1.size ≤ 64 := by have := SZ.out; have := SX.out; omega
        have b2 : pu.size ≤ 2 := P1.out
        have B4 := hid (nxB B2.out HW.out)
        have X4 := hid (Bx.next X2.out HW.out)
        have C4 := hid (Bx.next C.out B4.out)
        obtain ⟨x0, x1, x2, x3⟩ := Bx.q4 X4.out
        have cb := celB B4.out HB.out
        obtain ⟨s2, hs2⟩ : ∃ s2, r1 ++ pu = s2 := ⟨_, rfl⟩
        have S2 := hid (show s2.size ≤ 66 from by rw [← hs2, ByteArray.size_append]; omega)
        rw [hs2] at HS
        go_upto_region 7 with (first | (go_at_call 32; (with_reducible refine Calls.mono (KC.out _) ?_); rintro e w4 ⟨rfl, rfl⟩) | (go_at_call 33; (with_reducible refine Calls.mono (KU.out _ B4.out) ?_); rintro e w5 ⟨rfl, b5⟩; have B5 := hid (nxB B4.out b5); have X5 := hid (Bx.next X4.out b5); have C5 := hid (Bx.next C4.out b5); clear b5))
        clear x0 x1 x2 x3 cb hs2 b1 b2 X4 C4 B4
        have cb := celB B5.out HB.out
        have c9 : w5.cell? ⟨c, 9, none⟩ = some (.int .i64 sk) := C5.out.cell 9 _ rfl
        have fz := Bx.fz2 C5.out
        obtain ⟨k1, k2⟩ := SK.out
        have s2b : (s2.size : Int) ≤ 66 := by have := S2.out; omega
        go_region
        have C6 := hid (show Ck (w5.setCell ⟨c, 9, none⟩ (.int .i64 (if sk < ((s2.size : Nat) : Int) then ((s2.size : Nat) : Int) else sk))).drew c s lv st (if sk < ((s2.size : Nat) : Int) then ((s2.size : Nat) : Int) else sk) from Bx.next (Bx.set C5.out 9 _) (dw1 _))
        have K6 := hid (((Kx.of [c] B5.out).set (p := c) (i := 9) (.int .i64 (if sk < ((s2.size : Nat) : Int) then ((s2.size : Nat) : Int) else sk)) (by simp)).next (dw1 _))
        have X6 := hid (Bx.kx X5.out (((Kx.refl [c] w5).set (p := c) (i := 9) (.int .i64 (if sk < ((s2.size : Nat) : Int) then ((s2.size : Nat) : Int) else sk)) (by simp)).next (dw1 _)) (by simp; exact QC.out))
        have EM := hid (show stkM sk R = (if sk < ((s2.size : Nat) : Int) then ((s2.size : Nat) : Int) else sk) from by rw [HS.out]; rfl)
        clear cb c9 fz C5 X5 B5
        generalize (if sk < ((s2.size : Nat) : Int) then ((s2.size : Nat) : Int) else sk) = M at *
        generalize (World.setCell w5 ⟨c, 9, none⟩ (.int .i64 M)).drew = w6 at *
        have T6 := hid (TT.out.kx K6.out (by simp; exact NG.out))
        have KM := hid (KN.out w6 K6.out T6.out)
        obtain ⟨nm, hnm⟩ : ∃ nm, opN i.1 = nm := ⟨_, rfl⟩
        rw [hnm] at KM
        obtain ⟨x0, x1, x2, x3⟩ := Bx.q4 X6.out
        by_cases qs : s2.size ≤ 64
        · by_cases h23 : i.1 = 23
          · cases ze : (s2.toList == ([] : List UInt8)) with
            | true =>
              have HV := hid (show stkO i (some s2) = (s2, true) from by unfold stkO; dsimp only; rw [decide_eq_true qs, decide_eq_true h23, ze]; rfl)
              have z23 : (nm.toList == [104, 97, 108, 116]) = true := by rw [← hnm]; exact nm_yes i.1 23 _ rfl h23
              have qe : (s2.size : Int) ≤ 64 := by omega
              clear hnm h23
              go_wp2_with (go_at_call 21; (with_reducible refine Calls.mono KM.out ?_); rintro e w7 ⟨rfl, b7⟩; have B7 := hid b7; clear b7)
              go_returns
              rw [EM.out, HS.out, HV.out]
              exact ⟨rfl, K6.out.next B7.out, Bx.next C6.out B7.out⟩
            | false =>
              have HV := hid (show stkO i (some s2) = (s2, false) from by unfold stkO; dsimp only; rw [decide_eq_true qs, decide_eq_true h23, ze]; rfl)
              have z23 : (nm.toList == [104, 97, 108, 116]) = true := by rw [← hnm]; exact nm_yes i.1 23 _ rfl h23
              have qe : (s2.size : Int) ≤ 64 := by omega
              clear hnm h23
              go_wp2_with (go_at_call 21; (with_reducible refine Calls.mono KM.out ?_); rintro e w7 ⟨rfl, b7⟩; have B7 := hid b7; clear b7)
              go_returns
              rw [EM.out, HS.out, HV.out]
              exact ⟨rfl, K6.out.next B7.out, Bx.next C6.out B7.out⟩
          · skip
            have HV := hid (show stkO i (some s2) = (s2, true) from by unfold stkO; dsimp only; rw [decide_eq_true qs, decide_eq_false h23]; simp)
            have z23 : (nm.toList == [104, 97, 108, 116]) = false := by rw [← hnm]; exact nm_no i.1 23 _ rfl h23
            have qe : (s2.size : Int) ≤ 64 := by omega
            clear hnm h23
            go_wp2_with (go_at_call 21; (with_reducible refine Calls.mono KM.out ?_); rintro e w7 ⟨rfl, b7⟩; have B7 := hid b7; clear b7)
            go_returns
            rw [EM.out, HS.out, HV.out]
            exact ⟨rfl, K6.out.next B7.out, Bx.next C6.out B7.out⟩
        · by_cases h23 : i.1 = 23
          · cases ze : (s2.toList == ([] : List UInt8)) with
            | true =>
              have HV := hid (show stkO i (some s2) = (s2, false) from by unfold stkO; dsimp only; rw [decide_eq_false qs, decide_eq_true h23, ze]; rfl)
              have z23 : (nm.toList == [104, 97, 108, 116]) = true := by rw [← hnm]; exact nm_yes i.1 23 _ rfl h23
              have qd : decide ((s2.size : Int) ≤ 64) = false := decide_eq_false (by omega)
              clear qs
              clear hnm h23
              go_wp2_with (go_at_call 21; (with_reducible refine Calls.mono KM.out ?_); rintro e w7 ⟨rfl, b7⟩; have B7 := hid b7; clear b7)
              go_returns
              rw [EM.out, HS.out, HV.out]
              exact ⟨rfl, K6.out.next B7.out, Bx.next C6.out B7.out⟩
            | false =>
              have HV := hid (show stkO i (some s2) = (s2, false) from by unfold stkO; dsimp only; rw [decide_eq_false qs, decide_eq_true h23, ze]; rfl)
              have z23 : (nm.toList == [104, 97, 108, 116]) = true := by rw [← hnm]; exact nm_yes i.1 23 _ rfl h23
              have qd : decide ((s2.size : Int) ≤ 64) = false := decide_eq_false (by omega)
              clear qs
              clear hnm h23
              go_wp2_with (go_at_call 21; (with_reducible refine Calls.mono KM.out ?_); rintro e w7 ⟨rfl, b7⟩; have B7 := hid b7; clear b7)
              go_returns
              rw [EM.out, HS.out, HV.out]
              exact ⟨rfl, K6.out.next B7.out, Bx.next C6.out B7.out⟩
          · skip
            have HV := hid (show stkO i (some s2) = (s2, false) from by unfold stkO; dsimp only; rw [decide_eq_false qs, decide_eq_false h23]; simp)
            have z23 : (nm.toList == [104, 97, 108, 116]) = false := by rw [← hnm]; exact nm_no i.1 23 _ rfl h23
            have qd : decide ((s2.size : Int) ≤ 64) = false := decide_eq_false (by omega)
            clear qs
            clear hnm h23
            go_wp2_with (go_at_call 21; (with_reducible refine Calls.mono KM.out ?_); rintro e w7 ⟨rfl, b7⟩; have B7 := hid b7; clear b7)
            go_returns
            rw [EM.out, HS.out, HV.out]
            exact ⟨rfl, K6.out.next B7.out, Bx.next C6.out B7.out⟩
    · have qj' : ¬ (j : Int) < (tl.length : Int) := by omega
      have HS := hid (show R = none from by rw [← RH.out]; exact stk1_no fun k t hk ht => HA.out k t (by omega) ht)
      go_wp2_with fail
      go_returns
      rw [HS.out]
      exact ⟨rfl, (Kx.of [c] B2.out).next HW.out, Bx.next (Bx.next C.out B2.out) HW.out⟩

end Go.Proofs.YtjkbiglnpoeddaaDoor.Vf
