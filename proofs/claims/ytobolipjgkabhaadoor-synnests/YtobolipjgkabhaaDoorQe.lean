/- The walks over EqualFunc and Same. -/
import Derived.Test.YtobolipjgkabhaaDoorQd
import Derived.Deep.LoopGhost
namespace Go.Proofs.YtobolipjgkabhaaDoor
open Go.Shelf Go.RowKit
set_option linter.unusedVariables false
set_option linter.unusedSimpArgs false

/-- What a call of Same answers. -/
def SmC (t u : Tr) : Prop := ∀ (w : World) (S : Nat → Prop) (aa ba : Option Addr) (am ac bm bc : Nat), Nd w S (.slice aa am ac) t.kids → Nd w S (.slice ba bm bc) u.kids → Calls Tryd.prog 7 #[.agg #[.string t.op, .string t.name, .int .i64 (t.kind : Nat), .int .i64 t.n, .int .i64 (t.pl : Nat), .slice aa am ac], .agg #[.string u.op, .string u.name, .int .i64 (u.kind : Nat), .int .i64 u.n, .int .i64 (u.pl : Nat), .slice ba bm bc]] w fun e w' => e = .returned (.bool (smT t u)) ∧ Below w.heap.size w w'
theorem Nd.any {w w' : World} {S : Nat → Prop} {v : Value} {ts : List Tr} (h : Nd w S v ts) (hb : Below w.heap.size w w') : Nd w' S v ts := h.keep fun g s l => ⟨s, hb.block g l⟩
theorem smL_len : ∀ (ts us : List Tr), ts.length ≠ us.length → smL ts us = false
  | [], [], h => absurd rfl h
  | [], _ :: _, h => rfl
  | _ :: _, [], h => rfl
  | t :: ts, u :: us, h => by
    unfold smL
    rw [smL_len ts us (by simpa using h), Bool.and_false]
set_option maxRecDepth 100000 in
set_option maxHeartbeats 2000000 in
theorem eqf_any (ts us : List Tr) (w : World) (S : Nat → Prop) (aa ba : Option Addr) (am ac bm bc : Nat) (hA : Nd w S (.slice aa am ac) ts) (hB : Nd w S (.slice ba bm bc) us) (hl : ts.length ≤ 100000) (hC : ∀ t ∈ ts, ∀ u ∈ us, SmC t u) :
    Calls Tryd.prog 11 #[.slice aa am ac, .slice ba bm bc, .func (.func 7) #[] #[]] w fun e w' => e = .returned (.bool (smL ts us)) ∧ Below w.heap.size w w' := by
  have ea : am = ts.length := by cases hA <;> rfl
  have eb : bm = us.length := by cases hB <;> rfl
  subst ea eb
  by_cases y : ts.length = us.length
  · have NA := hid hA
    have NB := hid hB
    have CH := hid hC
    have y' : (ts.length : Int) = (us.length : Int) := by omega
    have l1 : (us.length : Int) ≤ 100000 := by omega
    obtain ⟨F, hF⟩ : ∃ F, smL ts us = F := ⟨_, rfl⟩
    have FE := hid hF
    rw [hF]
    clear hA hB hC hF
    rw [y]
    go_enter Tryd.func11, Tryd.ntmps11
    go_upto_region 4 with fail
    go_loopg [17] (us.length + 1) (fun g iv wr => ∃ i : Nat, i ≤ us.length ∧ g = us.length + 1 - i ∧ iv = .int .i64 (i : Nat) ∧ Hid (Below w.heap.size w wr) ∧ Hid (smL (ts.drop i) (us.drop i) = F))
    case atStart => exact ⟨0, Nat.zero_le _, rfl, rfl, Below.refl _ _, FE⟩
    case round =>
      obtain ⟨i, hi, rfl, rfl, HB, EH⟩ := hrel
      by_cases q : i < us.length
      · have q' : (i : Int) < (us.length : Int) := by omega
        obtain ⟨t, ht⟩ : ∃ t, ts[i]? = some t := ⟨_, List.getElem?_eq_getElem (by omega)⟩
        obtain ⟨u, hu⟩ : ∃ u, us[i]? = some u := ⟨_, List.getElem?_eq_getElem q⟩
        have SE := hid (show (smT t u && smL (ts.drop (i + 1)) (us.drop (i + 1))) = F from by rw [← EH.out, List.drop_eq_getElem_cons (by omega : i < ts.length), List.drop_eq_getElem_cons q, (List.getElem?_eq_some_iff.1 ht).2, (List.getElem?_eq_some_iff.1 hu).2]; rfl)
        obtain ⟨g1, a1, m1, c1, rfl, _, n1, d1⟩ := (NA.out.any HB.out).at_ i t ht
        obtain ⟨g2, a2, m2, c2, rfl, _, n2, d2⟩ := (NB.out.any HB.out).at_ i u hu
        obtain ⟨k0, k1, k2, k3, k4, k5⟩ := n1
        obtain ⟨j0, j1, j2, j3, j4, j5⟩ := n2
        have BL1 := hid (show Below wr.heap.size wr (wr.alloc (.cells #[.string t.op, .string t.name, .int .i64 (t.kind : Nat), .int .i64 t.n, .int .i64 (t.pl : Nat), .slice a1 m1 c1] 26)) from (Below.refl _ _).alloc (Nat.le_refl _) _)
        have X1 := hid (B6.new wr 26 (.string t.op) (.string t.name) (.int .i64 (t.kind : Nat)) (.int .i64 t.n) (.int .i64 (t.pl : Nat)) (.slice a1 m1 c1))
        have D1 := hid (d1.any BL1.out)
        have D2 := hid (d2.any BL1.out)
        have HB1 := hid (nextB HB.out BL1.out)
        have CS := hid (CH.out t (List.mem_of_getElem? ht) u (List.mem_of_getElem? hu))
        have J := hid (show NC (wr.alloc (.cells #[.string t.op, .string t.name, .int .i64 (t.kind : Nat), .int .i64 t.n, .int .i64 (t.pl : Nat), .slice a1 m1 c1] 26)) g2 (i * 6) u (.slice a2 m2 c2) from NC.keep ⟨j0, j1, j2, j3, j4, j5⟩ (BL1.out.block _ (World.block_lt_of_cell? _ _ j0)))
        go_upto_region 6 with fail
        clear k0 k1 k2 k3 k4 k5 j0 j1 j2 j3 j4 j5 d1 d2 BL1 ht hu
        generalize World.alloc wr _ = w2 at *
        generalize wr.heap.size = q1 at *
        obtain ⟨j0, j1, j2, j3, j4, j5⟩ := J.out
        have BL2 := hid (show Below w2.heap.size w2 (w2.alloc (.cells #[.string u.op, .string u.name, .int .i64 (u.kind : Nat), .int .i64 u.n, .int .i64 (u.pl : Nat), .slice a2 m2 c2] 26)) from (Below.refl _ _).alloc (Nat.le_refl _) _)
        have X2 := hid (B6.new w2 26 (.string u.op) (.string u.name) (.int .i64 (u.kind : Nat)) (.int .i64 u.n) (.int .i64 (u.pl : Nat)) (.slice a2 m2 c2))
        have Y1 := hid (X1.out.next BL2.out)
        have HB2 := hid (nextB HB1.out BL2.out)
        have KC := hid (CS.out _ S a1 a2 m1 c1 m2 c2 (D1.out.any BL2.out) (D2.out.any BL2.out))
        go_upto_region 7 with fail
        clear j0 j1 j2 j3 j4 j5 BL2
        generalize World.alloc w2 _ = w3 at *
        generalize w2.heap.size = q2 at *
        obtain ⟨p0, p1, p2, p3, p4, p5, _⟩ := Y1.out
        obtain ⟨r0, r1, r2, r3, r4, r5, _⟩ := X2.out
        cases z : smT t u
        · rw [z] at KC
          have FF := hid (show F = false from by rw [← SE.out, z]; rfl)
          clear z
          go_wp2_with (go_at_call 7; with_reducible refine Calls.mono KC.out ?_; rintro e w4 ⟨rfl, b4⟩)
          go_ret
          exact ⟨by rw [FF.out]; rfl, nextB HB2.out b4⟩
        · rw [z] at KC
          have FF := hid (show smL (ts.drop (i + 1)) (us.drop (i + 1)) = F from by rw [← SE.out, z]; rfl)
          clear z
          go_wp2_with (go_at_call 7; with_reducible refine Calls.mono KC.out ?_; rintro e w4 ⟨rfl, b4⟩)
          go_roundg (us.length + 1 - (i + 1))
          case measure => omega
          case rel => exact ⟨i + 1, by omega, rfl, by rw [Int.natCast_add]; rfl, nextB HB2.out b4, FF⟩
      · have q' : ¬ (i : Int) < (us.length : Int) := by omega
        have FF := hid (show F = true from by rw [← EH.out, List.drop_eq_nil_of_le (by omega), List.drop_eq_nil_of_le (by omega)]; rfl)
        go_wp2_with fail
        go_ret
        exact ⟨by rw [FF.out]; rfl, HB.out⟩
  · rw [smL_len ts us y]
    have y' : (ts.length : Int) ≠ (us.length : Int) := by omega
    clear hA hB hC
    go_enter Tryd.func11, Tryd.ntmps11
    go_wp2
    go_ret
    exact ⟨rfl, Below.refl _ _⟩
end Go.Proofs.YtobolipjgkabhaaDoor
