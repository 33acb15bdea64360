/- Split, both sides: one answer. -/
import Derived.Test.YthdjghmipepppaaMj
import Derived.Test.YthdjghmipepppaaMh
import Derived.Test.YthdjghmipepppaaMk
import Derived.Test.YthdjghmipepppaaMi
namespace Go.Proofs.Ythdjghmipepppaa
open Go.RowKit
set_option linter.unusedVariables false
set_option linter.unusedSimpArgs false

set_option maxRecDepth 100000 in
set_option maxHeartbeats 4000000 in
theorem Split_branch (v : Value) (p : Pg) (w : World) (h : Pv w v p) (f : Bd p) (hl : p.leaf = false) (hv : p.vals = []) (hk : p.kids.length = p.keys.length + 1) (h3n : 3 ≤ p.keys.length) :
    Calls Try.prog 65 #[v] w fun e w' => NewT w w' e (brA p) (kAt p.keys (p.keys.length / 2)) (brB p) := by
  have KS : Hid (∀ W, Below w.heap.size w W → Calls Try.prog 86 #[v] W fun e w' => NewT W w' e (brA p) (kAt p.keys (p.keys.length / 2)) (brB p)) := fun W b => splitBranch_any v p W (h.below b) f hl hv hk h3n
  obtain ⟨ka, kn, kc, va, vn, vc, ia, im, ic, rfl, h1, h2, h3⟩ := h.ex
  have l1 := h1.slen
  have b1 := f.keys
  have lft1 : (brA p).leaf = false := rfl
  have lft2 : (brB p).leaf = false := rfl
  rw [hl] at KS ⊢
  generalize kAt p.keys (p.keys.length / 2) = kk at *
  generalize brA p = PA at *
  generalize brB p = PB at *
  have n1 : (3 : Int) ≤ (kn : Int) := by omega
  have n2 : kn ≤ 90000 := by omega
  have C0 : Hid (R2z w (.bool false) (.slice ka kn kc) (.slice va vn vc) (.slice ia im ic) (((w.alloc (.cells #[.bool false, .slice ka kn kc, .slice va vn vc, .slice ia im ic] 54)).alloc (.cells #[.bool false, .slice none 0 0, .slice none 0 0, .slice none 0 0] 54)).alloc (.cells #[.bool false, .slice none 0 0, .slice none 0 0, .slice none 0 0] 54))) := R2z.new w _ _ _ _ _ _ _
  clear h h1 h2 h3 f l1 b1 hk h3n hv hl
  go_enter Try.func65, Try.ntmps65
  go_upto_region 1 with fail
  generalize ((w.alloc (.cells #[.bool false, .slice ka kn kc, .slice va vn vc, .slice ia im ic] 54)).alloc (.cells #[.bool false, .slice none 0 0, .slice none 0 0, .slice none 0 0] 54)).alloc (.cells #[.bool false, .slice none 0 0, .slice none 0 0, .slice none 0 0] 54) = W0 at *
  obtain ⟨x0, x1, x2, x3⟩ := C0.out.box
  go_wp2_with fail
  refine Calls.mono (KS.out W0 C0.out.bel) ?_
  rintro e w1 ⟨v1, u1, rfl, P1', P2', b1⟩
  have R1 : Hid _ := C0.out.next b1
  clear x0 x1 x2 x3 KS C0
  have P1 : Hid _ := P1'
  have P2 : Hid _ := P2'
  obtain ⟨ax, mx, cx, dx, nx, fx, gx, ox, hx, rfl, _, _, _⟩ := P1'.ex
  obtain ⟨ay, my, cy, dy, ny, fy, gy, oy, hy, rfl, _, _, _⟩ := P2'.ex
  clear P1' P2' b1
  have X : Hid _ := R1.out.fin (q := PA) (q' := PB) P1.out P2.out
  unfold st4 at X
  simp only [lft1, lft2] at X
  obtain ⟨r0, r1, r2, r3⟩ := R1.out.ra.b4
  obtain ⟨s0, s1, s2, s3⟩ := R1.out.rb.b4
  simp only [zeroP] at r0 s0
  have rz := R1.out.ra.fz
  have sz := R1.out.rb.fz
  go_wp2
  clear r0 r1 r2 r3 s0 s1 s2 s3 rz sz
  generalize ((((((((w1.setCell ⟨w.heap.size + 1, 0, none⟩ (.bool false)).setCell ⟨w.heap.size + 1, 1, none⟩ (.slice ax mx cx)).setCell ⟨w.heap.size + 1, 2, none⟩ (.slice dx nx fx)).setCell ⟨w.heap.size + 1, 3, none⟩ (.slice gx ox hx)).setCell ⟨w.heap.size + 1 + 1, 0, none⟩ (.bool false)).setCell ⟨w.heap.size + 1 + 1, 1, none⟩ (.slice ay my cy)).setCell ⟨w.heap.size + 1 + 1, 2, none⟩ (.slice dy ny fy)).setCell ⟨w.heap.size + 1 + 1, 3, none⟩ (.slice gy oy hy)) = W8 at *
  have Y1 : Hid _ := X.out.p1
  have Y2 : Hid _ := X.out.p2
  have BL : Hid _ := X.out.bel
  obtain ⟨t0, t1, t2, t3⟩ := X.out.ra
  obtain ⟨t4, t5, t6, t7⟩ := X.out.rb
  exact bodyPost_ret (v := .tuple #[.agg #[.bool false, .slice ax mx cx, .slice dx nx fx, .slice gx ox hx], .string kk, .agg #[.bool false, .slice ay my cy, .slice dy ny fy, .slice gy oy hy]]) (by simp [results, Try.results65, go_sem, t0, t1, t2, t3, t4, t5, t6, t7]) rfl ⟨_, _, rfl, Y1.out, Y2.out, BL.out⟩

theorem Split_any (v : Value) (p : Pg) (w : World) (h : Pv w v p) (f : Fit p) (g : goodB p = true) : Calls Try.prog 65 #[v] w fun e w' => NewT w w' e (spA p) (spK p) (spB p) := by
  unfold spA spK spB
  by_cases c1 : p.leaf = true ∧ 2 ≤ p.keys.length
  · rw [if_pos c1, if_pos c1, if_pos c1]
    exact Calls.mono (Split_leaf v p w h f c1.1 c1.2) fun e w' ⟨v', u', he, h1, h2, _, b⟩ => ⟨v', u', he, h1, h2, b⟩
  · rw [if_neg c1, if_neg c1, if_neg c1]
    by_cases c2 : p.leaf = false ∧ 3 ≤ p.keys.length
    · rw [if_pos c2, if_pos c2, if_pos c2]
      have q := goodB_branch g c2.1
      exact Split_branch v p w h f.bd c2.1 q.1 q.2 c2.2
    · rw [if_neg c2, if_neg c2, if_neg c2]
      refine Calls.mono (Split_small v p w h f.bd ?_) fun e w' ⟨v', u', he, h1, h2, _, b⟩ => ⟨v', u', he, h1, h2, b⟩
      cases hl : p.leaf with
      | true => left; rw [hl] at c1; simp at c1; omega
      | false => right; rw [hl] at c2; simp at c2; exact ⟨rfl, by omega⟩
theorem sp_bd {p : Pg} (f : Bd p) : Bd (spA p) ∧ Bd (spB p) := by
  have a := f.keys
  have b := f.vals
  have c := f.kids
  have d := f.tk
  have e := f.tv
  have zb : Bd zeroP := ⟨by decide, by decide, by decide, by decide, by decide, fun k hk => by simp [zeroP] at hk⟩
  unfold spA spB
  by_cases c1 : p.leaf = true ∧ 2 ≤ p.keys.length
  · rw [if_pos c1, if_pos c1]
    unfold lfA lfB
    generalize mid (szs p.keys p.vals) = m
    have := tot_take_le p.keys m
    have := tot_take_le p.vals m
    have := tot_drop_le p.keys m
    have := tot_drop_le p.vals m
    exact ⟨⟨by simp only [List.length_take]; omega, by simp only [List.length_take]; omega, by simp, by simp only; omega, by simp only; omega, fun k hk => by simp at hk⟩, ⟨by simp only [List.length_drop]; omega, by simp only [List.length_drop]; omega, by simp, by simp only; omega, by simp only; omega, fun k hk => by simp at hk⟩⟩
  · rw [if_neg c1, if_neg c1]
    by_cases c2 : p.leaf = false ∧ 3 ≤ p.keys.length
    · rw [if_pos c2, if_pos c2]
      unfold brA brB
      generalize p.keys.length / 2 = m
      have := tot_take_le p.keys m
      have := tot_drop_le p.keys (m + 1)
      exact ⟨⟨by simp only [List.length_take]; omega, by simp, by simp only [List.length_take]; omega, by simp only; omega, by simp [tot], fun k hk => f.kid k (List.mem_of_mem_take hk)⟩, ⟨by simp only [List.length_drop]; omega, by simp, by simp only [List.length_drop]; omega, by simp only; omega, by simp [tot], fun k hk => f.kid k (List.mem_of_mem_drop hk)⟩⟩
    · rw [if_neg c2, if_neg c2]
      exact ⟨f, zb⟩
/-- What is put into, and taken out of, a small good leaf is within bounds. -/
theorem putP_bd {p : Pg} (s : Small p) (h : p.vals.length = p.keys.length) (k v : ByteArray) (hk : k.size ≤ 40) (hv : v.size ≤ 400) : Bd (putP p k v) := by
  have a := s.keys
  have b := s.vals
  have d := s.tot
  have pl := pos_le p.keys k
  cases e : fnd p.keys k with
  | true =>
    rw [putP_yes e]
    have := fnd_true e
    have := setAt_len (l := p.vals) (i := posS p.keys k) (x := v) (by omega)
    have := tot_set_le (ss := p.vals) (posS p.keys k) v
    exact ⟨by simp only; omega, by simp only; omega, by simp, by simp only; omega, by simp only; omega, fun k hk => by simp at hk⟩
  | false =>
    rw [putP_no e]
    have := insAt_len (l := p.keys) (i := posS p.keys k) (x := k) (by omega)
    have := insAt_len (l := p.vals) (i := posS p.keys k) (x := v) (by omega)
    have := tot_ins (ss := p.keys) (posS p.keys k) k
    have := tot_ins (ss := p.vals) (posS p.keys k) v
    exact ⟨by simp only; omega, by simp only; omega, by simp, by simp only; omega, by simp only; omega, fun k hk => by simp at hk⟩
theorem dropP_bd {p : Pg} (s : Small p) (f : Bd p) (h : p.vals.length = p.keys.length) (k : ByteArray) : Bd (dropP p k) := by
  have a := s.keys
  have b := s.vals
  have d := s.tot
  cases e : fnd p.keys k with
  | true =>
    rw [dropP_yes e]
    have := fnd_true e
    have := delAt_len (l := p.keys) (i := posS p.keys k) (by omega)
    have := delAt_len (l := p.vals) (i := posS p.keys k) (by omega)
    have := tot_del_le (ss := p.keys) (posS p.keys k)
    have := tot_del_le (ss := p.vals) (posS p.keys k)
    exact ⟨by simp only; omega, by simp only; omega, by simp, by simp only; omega, by simp only; omega, fun k hk => by simp at hk⟩
  | false => rw [dropP_no e]; exact f

end Go.Proofs.Ythdjghmipepppaa

