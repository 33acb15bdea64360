/- The walks over package publicanref1, on: comparing two numbers by digits. -/
import Derived.Test.YtlgdolchnlagcaaB5
import Derived.Deep.RegionHeld3
import Derived.Deep.DeepCutAuto
import Derived.Deep.CutBlock
namespace Go.Proofs.Ytlgdolchnlagcaa
open Go.RowKit
set_option linter.unusedVariables false

/-- A block that holds a number by digits. -/
structure Sits (w : World) (c : Nat) (sg : Bool) (a : Option Addr) (m cap : Nat) : Prop where
  c0 : w.cell? ⟨c, 0, none⟩ = some (.bool sg)
  c1 : w.cell? ⟨c, 1, none⟩ = some (.slice a m cap)
  lt : c < w.heap.size
theorem Sits.below {w w' : World} {c : Nat} {sg : Bool} {a : Option Addr} {m cap : Nat} (h : Sits w c sg a m cap) (hb : Below w.heap.size w w') : Sits w' c sg a m cap :=
  ⟨by rw [hb.cell (p := ⟨c, 0, none⟩) h.lt]; exact h.c0, by rw [hb.cell (p := ⟨c, 1, none⟩) h.lt]; exact h.c1, Nat.lt_of_lt_of_le h.lt hb.size⟩
theorem Sits.new (w : World) (sg : Bool) (a : Option Addr) (m cap : Nat) : Sits (w.alloc (.cells #[.bool sg, .slice a m cap] 35)) w.heap.size sg a m cap := ⟨by simp, by simp, by simp⟩
theorem Sits.set {w : World} {c : Nat} {x y : Value} (hx : w.cell? ⟨c, 0, none⟩ = some x) (hy : w.cell? ⟨c, 1, none⟩ = some y) (lt : c < w.heap.size) (sg : Bool) (a : Option Addr) (m cap : Nat) :
    Sits ((w.setCell ⟨c, 0, none⟩ (.bool sg)).setCell ⟨c, 1, none⟩ (.slice a m cap)) c sg a m cap :=
  ⟨(set2_same hx hy).1, (set2_same hx hy).2, by simpa using lt⟩

/-- What lies in memory behind 'd := F(..)', whenever d's place is made: a new block that holds the number. -/
def Made (W W' : World) (c : Nat) (n : Int) : Prop := ∃ sg a m cap ds, Sits W' c sg a m cap ∧ Bg W' sg a m cap ds n ∧ Below W.heap.size W W' ∧ W.heap.size ≤ c ∧ (0 < m → ∀ x, a = some x → W.heap.size ≤ x.block)

/-- The place is made behind the call. -/
theorem madeA {W w2 w0 : World} {n : Int} {sg : Bool} {a : Option Addr} {m cap : Nat} {ds : List Int} (hb : Below W.heap.size W w2) (g : Bg w2 sg a m cap ds n) (hw0 : W.heap.size ≤ w0.heap.size) (f : 0 < m → ∀ x, a = some x → w0.heap.size ≤ x.block) :
    Made W (w2.alloc (.cells #[.bool sg, .slice a m cap] 35)) w2.heap.size n :=
  ⟨sg, a, m, cap, ds, Sits.new _ _ _ _ _, g.below ((Below.refl _ _).alloc (Nat.le_refl _) _), hb.alloc hb.size _, hb.size, fun p x hx => by have := f p x hx; omega⟩
/-- The place was made ahead of it. -/
theorem madeB {W w2 w0 : World} {n : Int} {sg : Bool} {a : Option Addr} {m cap : Nat} {ds : List Int} {c : Nat} {x y : Value} (hb : Below W.heap.size W w2) (g : Bg w2 sg a m cap ds n) (hw0 : W.heap.size ≤ w0.heap.size) (f : 0 < m → ∀ x, a = some x → w0.heap.size ≤ x.block)
    (hc : W.heap.size ≤ c) (hc0 : c < w0.heap.size) (hx : w2.cell? ⟨c, 0, none⟩ = some x) (hy : w2.cell? ⟨c, 1, none⟩ = some y) :
    Made W ((w2.setCell ⟨c, 0, none⟩ (.bool sg)).setCell ⟨c, 1, none⟩ (.slice a m cap)) c n :=
  ⟨sg, a, m, cap, ds, Sits.set hx hy (World.block_lt_of_cell? _ _ hx) _ _ _ _, g.store (fun p z hz => by have := f p z hz; omega) _ _, (hb.setCell (p := ⟨c, 0, none⟩) hc _).setCell (p := ⟨c, 1, none⟩) hc _, hc, fun p z hz => by have := f p z hz; omega⟩

theorem cmp_sign {sg : Bool} {m : Nat} {ds : List Int} {w : World} {a : Option Addr} {cap : Nat} {x y : Int} (g : Bg w sg a m cap ds (x - y)) :
    (m = 0 → cmpI x y = 0) ∧ (0 < m → sg = true → cmpI x y = -1) ∧ (0 < m → sg = false → cmpI x y = 1) := by
  have v := g.val
  refine ⟨fun h => ?_, fun h s => ?_, fun h s => ?_⟩
  · have e : ds = [] := List.length_eq_zero_iff.1 (by rw [g.dg.len]; exact h)
    rw [e] at v
    have : sgn sg (dval []) = 0 := by cases sg <;> rfl
    exact cmpI_eq (by omega)
  · have := trim_pos g.dg.ok g.trim (by rw [g.dg.len]; exact h)
    rw [s, sgn_true] at v
    exact cmpI_lt (by omega)
  · have := trim_pos g.dg.ok g.trim (by rw [g.dg.len]; exact h)
    rw [s, sgn_false] at v
    exact cmpI_gt (by omega)

/-- What a region over two numbers by digits reads. -/
abbrev Rd2 (W : World) (p q : Nat) (na nb : Bool) (a b : Option Addr) (n m ca cb : Nat) (w' : World) : Prop :=
  w'.cell? ⟨p, 0, none⟩ = some (.bool na) ∧ w'.cell? ⟨p, 1, none⟩ = some (.slice a n ca) ∧ w'.cell? ⟨q, 0, none⟩ = some (.bool nb) ∧ w'.cell? ⟨q, 1, none⟩ = some (.slice b m cb) ∧ Below W.heap.size W w'
theorem Rd2.mk {W w' : World} {p q : Nat} {na nb : Bool} {a b : Option Addr} {n m ca cb : Nat} (h : Rd2 W p q na nb a b n m ca cb W) (hb : Below W.heap.size W w') : Rd2 W p q na nb a b n m ca cb w' := by
  obtain ⟨a1, a2, a3, a4, _⟩ := h
  refine ⟨?_, ?_, ?_, ?_, hb⟩
  · rw [hb.cell (p := ⟨p, 0, none⟩) (World.block_lt_of_cell? _ _ a1)]; exact a1
  · rw [hb.cell (p := ⟨p, 1, none⟩) (World.block_lt_of_cell? _ _ a2)]; exact a2
  · rw [hb.cell (p := ⟨q, 0, none⟩) (World.block_lt_of_cell? _ _ a3)]; exact a3
  · rw [hb.cell (p := ⟨q, 1, none⟩) (World.block_lt_of_cell? _ _ a4)]; exact a4
theorem Rd2.call {W w1 w' : World} {p q : Nat} {na nb : Bool} {a b : Option Addr} {n m ca cb : Nat} (h : Rd2 W p q na nb a b n m ca cb W) (g : Rd2 W p q na nb a b n m ca cb w1) (hb : Below w1.heap.size w1 w') : Rd2 W p q na nb a b n m ca cb w' :=
  h.mk (g.2.2.2.2.trans (hb.mono g.2.2.2.2.size))
theorem Rd2.alloc {W w1 : World} {p q : Nat} {na nb : Bool} {a b : Option Addr} {n m ca cb : Nat} (h : Rd2 W p q na nb a b n m ca cb W) (g : Rd2 W p q na nb a b n m ca cb w1) (o : Obj) : Rd2 W p q na nb a b n m ca cb (w1.alloc o) :=
  h.mk (g.2.2.2.2.alloc g.2.2.2.2.size o)
theorem Rd2.store {W w1 : World} {p q c : Nat} {na nb : Bool} {a b : Option Addr} {n m ca cb : Nat} {u v : Value} (h : Rd2 W p q na nb a b n m ca cb W) (g : Rd2 W p q na nb a b n m ca cb w1) (hc : W.heap.size ≤ c) :
    Rd2 W p q na nb a b n m ca cb ((w1.setCell ⟨c, 0, none⟩ u).setCell ⟨c, 1, none⟩ v) :=
  h.mk ((g.2.2.2.2.setCell (p := ⟨c, 0, none⟩) hc _).setCell (p := ⟨c, 1, none⟩) hc _)

theorem chainA {W w1 w2 : World} (hb1 : Below W.drew.heap.size W.drew w1) (hb2 : Below w1.heap.size w1 w2) : Below W.heap.size W w2 := by
  have a : Below W.heap.size W w1 := (Below.refl _ _).drew.trans hb1
  exact a.trans (hb2.mono a.size)

theorem mk2A {W w1 w2 : World} {n : Int} {sg : Bool} {a : Option Addr} {m cap : Nat} {ds : List Int} (hb1 : Below W.drew.heap.size W.drew w1) (hb2 : Below w1.heap.size w1 w2) (g : Bg w2 sg a m cap ds n) (f : 0 < m → ∀ x, a = some x → w1.heap.size ≤ x.block) :
    Made W (w2.alloc (.cells #[.bool sg, .slice a m cap] 35)) w2.heap.size n :=
  madeA (chainA hb1 hb2) g (show W.heap.size ≤ w1.heap.size from hb1.size) f
theorem mk2B {W w1 w2 : World} {n : Int} {sg : Bool} {a : Option Addr} {m cap : Nat} {ds : List Int} (hb1 : Below W.drew.heap.size W.drew w1) (hb2 : Below (w1.alloc (.cells #[.bool false, .slice none 0 0] 35)).heap.size (w1.alloc (.cells #[.bool false, .slice none 0 0] 35)) w2) (g : Bg w2 sg a m cap ds n) (f : 0 < m → ∀ x, a = some x → (w1.alloc (.cells #[.bool false, .slice none 0 0] 35)).heap.size ≤ x.block) :
    Made W ((w2.setCell ⟨w1.heap.size, 0, none⟩ (.bool sg)).setCell ⟨w1.heap.size, 1, none⟩ (.slice a m cap)) w1.heap.size n := by
  have b1 : Below W.heap.size W w1 := (Below.refl _ _).drew.trans hb1
  have b2 := b1.alloc b1.size (.cells #[.bool false, .slice none 0 0] 35)
  have c := (Sits.new w1 false none 0 0).below hb2
  exact madeB (b2.trans (hb2.mono b2.size)) g b2.size f b1.size (by simp) c.c0 c.c1
theorem mk2C {W w1 w2 : World} {n : Int} {sg : Bool} {a : Option Addr} {m cap : Nat} {ds : List Int} (hb1 : Below (W.alloc (.cells #[.bool false, .slice none 0 0] 35)).drew.heap.size (W.alloc (.cells #[.bool false, .slice none 0 0] 35)).drew w1) (hb2 : Below w1.heap.size w1 w2) (g : Bg w2 sg a m cap ds n) (f : 0 < m → ∀ x, a = some x → w1.heap.size ≤ x.block) :
    Made W ((w2.setCell ⟨W.heap.size, 0, none⟩ (.bool sg)).setCell ⟨W.heap.size, 1, none⟩ (.slice a m cap)) W.heap.size n := by
  have b1 := (Below.refl W.heap.size W).alloc (Nat.le_refl _) (.cells #[.bool false, .slice none 0 0] 35)
  have b1' : Below (W.alloc (.cells #[.bool false, .slice none 0 0] 35)).heap.size (W.alloc (.cells #[.bool false, .slice none 0 0] 35)) w1 := (Below.refl _ _).drew.trans hb1
  have b2 := b1.trans (b1'.mono b1.size)
  have c := ((Sits.new W false none 0 0).below b1').below hb2
  exact madeB (b2.trans (hb2.mono b2.size)) g b2.size f (Nat.le_refl _) (by have := b1'.size; simp at this; omega) c.c0 c.c1

set_option maxHeartbeats 4000000 in
theorem bcmp_any (na nb : Bool) (a b : Option Addr) (n m ca cb : Nat) (da db : List Int) (x y : Int) (w : World) (ha : Bg w na a n ca da x) (hb : Bg w nb b m cb db y) (lim : dval da + dval db < pw 32) :
    Calls Try.prog 28 #[.agg #[.bool na, .slice a n ca], .agg #[.bool nb, .slice b m cb]] w fun e w' => e = .returned (.int .i64 (cmpI x y)) ∧ Below w.heap.size w w' := by
  have HA : Hid _ := ha
  have HB : Hid _ := hb
  have LIM : Hid _ := lim
  clear ha hb lim
  go_enter Try.func28, Try.ntmps28
  go_wp2_with fail
  have W1 := Sits.new w na a n ca
  have W2 := Sits.new (w.alloc (.cells #[.bool na, .slice a n ca] 35)) nb b m cb
  have W1' := W1.below ((Below.refl _ _).alloc (Nat.le_refl _) (.cells #[.bool nb, .slice b m cb] 35))
  have e1 : (w.alloc (.cells #[.bool na, .slice a n ca] 35)).heap.size = w.heap.size + 1 := by simp
  rw [e1] at W2
  have BW : Hid (Below w.heap.size w ((w.alloc (.cells #[.bool na, .slice a n ca] 35)).alloc (.cells #[.bool nb, .slice b m cb] 35))) := ((Below.refl _ _).alloc (Nat.le_refl _) _).alloc (by simp) _
  generalize hW : (w.alloc (.cells #[.bool na, .slice a n ca] 35)).alloc (.cells #[.bool nb, .slice b m cb] 35) = W at *
  have R : Rd2 W w.heap.size (w.heap.size + 1) na nb a b n m ca cb W := ⟨W1'.c0, W1'.c1, W2.c0, W2.c1, Below.refl _ _⟩
  have GA : Hid _ := HA.out.below BW.out
  have GB : Hid _ := HB.out.below BW.out
  clear W1 W2 W1' e1 hW
  go_cut [5] (fun p wx => ∃ c, p = .pointer (some ⟨c, 0, none⟩) ∧ Made W wx c (x - y))
  case first =>
    go_region_held3 (Rd2 W w.heap.size (w.heap.size + 1) na nb a b n m ca cb) (first | exact R.mk (Below.refl _ _).drew | exact Rd2.call R (by assumption) (by assumption) | exact Rd2.alloc R (by assumption) _ | exact Rd2.store R (by assumption) (by omega) | exact R.mk ((chainA hb1 hb2).alloc (chainA hb1 hb2).size _)) (first | (go_at_call 20; refine (bminus_any _ _ _ _ _ _ _ (GB.out.below ?_)).mono ?_; (first | exact (Below.refl _ _).drew | exact ((Below.refl _ _).alloc (Nat.le_refl _) _).drew); rintro e w1 ⟨⟨sg1, rfl, g1⟩, hb1⟩; obtain ⟨hc1, hf1⟩ := bcell hb1; have s1 := hb1.size; try simp at s1; try (have s1x := Nat.lt_of_succ_le s1)) | (go_at_call 19; refine (badd_any na sg1 a b n m ca cb da db x (-y) _ (GA.out.below ?_) ?_ LIM.out).mono ?_; (exact (show Rd2 W w.heap.size (w.heap.size + 1) na nb a b n m ca cb _ by assumption).2.2.2.2); (first | exact g1 | exact g1.below ((Below.refl _ _).alloc (Nat.le_refl _) _)); rintro e w2 ⟨⟨sg2, a2, m2, c2, d2, rfl, g2, f2⟩, hb2⟩; obtain ⟨hc2, hf2⟩ := bcell hb2; have s2 := hb2.size; try simp at s2; try (have s2x := Nat.lt_of_succ_le s2)))
    all_goals go_wp2
    all_goals go_meet
    all_goals first | exact ⟨_, rfl, mk2A hb1 hb2 g2 f2⟩ | exact ⟨_, rfl, mk2B hb1 hb2 g2 f2⟩ | exact ⟨_, rfl, mk2C hb1 hb2 g2 f2⟩
  case rest =>
    obtain ⟨c, rfl, sg, d, k, cap, ds, S, G, hbx, hc, hf⟩ := hcut
    obtain ⟨q1, q2, q3⟩ := cmp_sign G
    have Q1 : Hid _ := q1
    have Q2 : Hid _ := q2
    have Q3 : Hid _ := q3
    have BX : Hid _ := BW.out.trans (hbx.mono BW.out.size)
    have c0 := S.c0
    have c1 := S.c1
    clear S G hbx hc hf q1 q2 q3 R
    by_cases z : k = 0
    · subst z
      go_wp2
      go_ret
      exact ⟨retI (Q1.out trivial).symm, BX.out⟩
    · have z' : ((k : Int) == 0) = false := beq_eq_false_iff_ne.2 (by omega)
      cases sg
      · go_wp2
        go_ret
        exact ⟨retI (Q3.out (by omega) trivial).symm, BX.out⟩
      · go_wp2
        go_ret
        exact ⟨retI (Q2.out (by omega) trivial).symm, BX.out⟩

end Go.Proofs.Ytlgdolchnlagcaa
