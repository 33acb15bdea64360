/- The walk over package publicanref1's Floor: the quotient of two numbers by digits, bit by bit. -/
import Derived.Test.YtlgdolchnlagcaaB9
namespace Go.Proofs.Ytlgdolchnlagcaa
open Go.RowKit Go.Deep
set_option linter.unusedVariables false

/-- What is left, in its place; its digits lie elsewhere than the quotient's. -/
structure FS (w : World) (na nb : Bool) (a b : Option Addr) (n m ca cb : Nat) (g : Nat) (R : Int) (wr : World) : Prop where
  aw : AddW w na nb a b n m ca cb wr
  rr : ∃ sg ra rm rc dr, Sits wr (w.heap.size + 3) sg ra rm rc ∧ Bg wr sg ra rm rc dr R ∧ (0 < rm → ∀ x, ra = some x → x.block ≠ w.heap.size + 3 ∧ x.block ≠ g)
  fz : ∀ o, wr.frozen? ⟨w.heap.size + 3, o, none⟩ = false
  gl : g < wr.heap.size
  gg : w.heap.size + 3 ≤ g

section
variable {w wr w1 w' : World} {na nb : Bool} {a b : Option Addr} {n m ca cb g : Nat} {R R' : Int}
theorem FS.below (h : FS w na nb a b n m ca cb g R wr) (hb : Below wr.heap.size wr w') : FS w na nb a b n m ca cb g R w' := by
  obtain ⟨sg, ra, rm, rc, dr, h1, h2, h3⟩ := h.rr
  exact ⟨h.aw.next (hb.mono h.aw.sz), ⟨sg, ra, rm, rc, dr, h1.below hb, h2.below hb, h3⟩, fun o => by rw [hb.frozen (p := ⟨w.heap.size + 3, o, none⟩) h1.lt]; exact h.fz o, Nat.lt_of_lt_of_le h.gl hb.size, h.gg⟩
theorem FS.step (h : FS w na nb a b n m ca cb g R wr) (hb : Below wr.heap.size wr w1) {sg : Bool} {x : Option Addr} {k cap : Nat} {ds : List Int} (G : Bg w1 sg x k cap ds R') (f : 0 < k → ∀ y, x = some y → wr.heap.size ≤ y.block) :
    FS w na nb a b n m ca cb g R' ((w1.setCell ⟨w.heap.size + 3, 0, none⟩ (.bool sg)).setCell ⟨w.heap.size + 3, 1, none⟩ (.slice x k cap)) := by
  have h' := h.below hb
  obtain ⟨_, _, _, _, _, h1, _, _⟩ := h'.rr
  have q : Below (w.heap.size + 3) w1 ((w1.setCell ⟨w.heap.size + 3, 0, none⟩ (.bool sg)).setCell ⟨w.heap.size + 3, 1, none⟩ (.slice x k cap)) := ((Below.refl _ _).setCell (p := ⟨w.heap.size + 3, 0, none⟩) (Nat.le_refl _) _).setCell (p := ⟨w.heap.size + 3, 1, none⟩) (Nat.le_refl _) _
  obtain ⟨_, _, _, _, _, h0, _, _⟩ := h.rr
  have l0 := h0.lt
  have g0 := h.gl
  refine ⟨h'.aw.next q, ⟨sg, x, k, cap, ds, Sits.set h1.c0 h1.c1 h1.lt _ _ _ _, G.store (fun p y hy => by have := f p y hy; omega) _ _, fun p y hy => by have := f p y hy; omega⟩, fun o => by simpa using h'.fz o, by simpa using h'.gl, h.gg⟩
end

/-- The quotient so far. -/
def QS (w wr : World) (v : Value) (g n j : Nat) (Q : Int) : Prop :=
  (v = .slice none 0 0 ∧ j = 16 * n ∧ Q = 0 ∧ g = w.heap.size + 3) ∨ (∃ cap qs, v = .slice (some ⟨g, 0, none⟩) n cap ∧ QR wr g n cap qs ∧ w.heap.size + 4 ≤ g ∧ dval qs = Q * p2 j ∧ Lowz qs j)
theorem QS.below {w wr w' : World} {v : Value} {g n j : Nat} {Q : Int} (h : QS w wr v g n j Q) (hb : Below wr.heap.size wr w') : QS w w' v g n j Q := by
  rcases h with h | ⟨cap, qs, h1, h2, h3⟩
  · exact .inl h
  · exact .inr ⟨cap, qs, h1, h2.below hb, h3⟩
theorem QS.step {w wr w1 : World} {v x y : Value} {g n j : Nat} {Q : Int} (h : QS w wr v g n j Q) (hb : Below wr.heap.size wr w1) : QS w ((w1.setCell ⟨w.heap.size + 3, 0, none⟩ x).setCell ⟨w.heap.size + 3, 1, none⟩ y) v g n j Q := by
  rcases h with h | ⟨cap, qs, h1, h2, h3, h4⟩
  · exact .inl h
  · exact .inr ⟨cap, qs, h1, (h2.below hb).set2 (by omega) _ _, h3, h4⟩

theorem FS.start (w : World) (na nb : Bool) (a b : Option Addr) (n m ca cb : Nat) :
    FS w na nb a b n m ca cb (w.heap.size + 3) 0 ((((w.alloc (.cells #[.bool na, .slice a n ca] 35)).alloc (.cells #[.bool nb, .slice b m cb] 35)).alloc (.cells #[.bool false, .slice none 0 0] 35)).alloc (.cells #[.bool false, .slice none 0 0] 35)) := by
  have s3 : (((w.alloc (.cells #[.bool na, .slice a n ca] 35)).alloc (.cells #[.bool nb, .slice b m cb] 35)).alloc (.cells #[.bool false, .slice none 0 0] 35)).heap.size = w.heap.size + 3 := by simp
  have S := Sits.new (((w.alloc (.cells #[.bool na, .slice a n ca] 35)).alloc (.cells #[.bool nb, .slice b m cb] 35)).alloc (.cells #[.bool false, .slice none 0 0] 35)) false none 0 0
  rw [s3] at S
  have fz : ∀ (W : World) (x y : Value) (o : Nat), (W.alloc (.cells #[x, y] 35)).frozen? ⟨W.heap.size, o, none⟩ = false := fun W x y o => by simp
  refine ⟨(AddW.start w na nb a b n m ca cb).next ((Below.refl _ _).alloc (by rw [s3]; exact Nat.le_refl _) _), ⟨false, none, 0, 0, [], S, ⟨⟨rfl, Nat.le_refl _, Nat.zero_le _, ⟨0, 0, fun p => by omega, fun i hi => by omega⟩, fun d hd => by simp at hd⟩, fun p => by simp at p, fun p => by simp at p, rfl, by omega⟩, fun p => by omega⟩, fun o => by rw [← s3]; exact fz _ _ _ o, by simp, Nat.le_refl _⟩

theorem and1 (u : Int) (h0 : 0 ≤ u) (h1 : u < 18446744073709551616) : bits .and .u64 u 1 = u % 2 := by
  obtain ⟨n, rfl⟩ := Int.eq_ofNat_of_zero_le h0
  have h := bits_and_u64_nat n 1 (by omega) (by omega)
  rw [Nat.and_one_is_mod] at h
  have e : ((1 : Nat) : Int) = 1 := rfl
  rw [e] at h
  rw [h]; omega
def Sm2 (x : Int) : Prop := -pw 14 < x ∧ x < pw 14
theorem Bg.sm2 {w : World} {neg : Bool} {a : Option Addr} {m cap : Nat} {ds : List Int} {n : Int} (h : Bg w neg a m cap ds n) (s : Sm2 n) : dval ds < pw 14 := by
  have v := h.val
  obtain ⟨s1, s2⟩ := s
  cases neg
  · rw [sgn_false] at v; omega
  · rw [sgn_true] at v; omega
theorem rq_of {A B Q R : Int} {k : Nat} (h : A / p2 (k + 1) = Q * B + R ∧ 0 ≤ R ∧ R < B ∧ 0 ≤ Q) : A / p2 k = 2 * Q * B + (R + R + A / p2 k % 2) ∧ 0 ≤ R + R + A / p2 k % 2 ∧ R + R + A / p2 k % 2 < 2 * B ∧ 0 ≤ Q := by
  obtain ⟨h1, h2, h3, h4⟩ := h
  have d := div_step h1
  have e : R + R = 2 * R := by omega
  rw [e]
  exact ⟨d, by omega, by omega, h4⟩
theorem FS.move {w wc wr : World} {na nb : Bool} {a b : Option Addr} {n m ca cb g g' : Nat} {R : Int} (h : FS w na nb a b n m ca cb g R wc) (hb : Below wc.heap.size wc wr) (hg : wc.heap.size ≤ g') (gl : g' < wr.heap.size) : FS w na nb a b n m ca cb g' R wr := by
  have h' := h.below hb
  obtain ⟨sg, ra, rm, rc, dr, h1, h2, h3⟩ := h.rr
  have old := h2.dg.old
  have := h.aw.sz
  exact ⟨h'.aw, ⟨sg, ra, rm, rc, dr, h1.below hb, h2.below hb, fun p x hx => ⟨(h3 p x hx).1, by have := old p x hx; omega⟩⟩, h'.fz, gl, by omega⟩
theorem zeros_ok (L : Nat) : DsOk (List.replicate L 0) := fun d hd => by
  have := List.eq_of_mem_replicate hd
  subst this; decide
theorem zeros_lowz (L j : Nat) : Lowz (List.replicate L 0) j := fun t => by
  have e : (List.replicate L (0 : Int)).getD t 0 = 0 := by
    by_cases h : t < L
    · simp [List.getD, h]
    · simp [List.getD, show L ≤ t by omega]
  exact ⟨fun _ => e, fun _ _ => ⟨0, by omega, by rw [e]; omega⟩⟩
theorem Bg.abs {w : World} {neg : Bool} {a : Option Addr} {m cap : Nat} {ds : List Int} {n : Int} (h : Bg w neg a m cap ds n) (h0 : 0 ≤ n) : dval ds = n := by
  have v := h.val
  have d := dval_nonneg h.dg.ok
  cases neg
  · rw [sgn_false] at v; omega
  · rw [sgn_true] at v; omega
theorem Dg.set1 {w : World} {a : Option Addr} {n cap : Nat} {ds : List Int} (h : Dg w a n cap ds) {c t : Nat} (hf : 0 < n → ∀ x, a = some x → x.block ≠ c) (v : Value) : Dg (w.setCell ⟨c, t, none⟩ v) a n cap ds := by
  obtain ⟨b, o, h1, h2⟩ := h.cell
  refine ⟨h.len, h.fits, h.max, ⟨b, o, h1, fun i hi => ?_⟩, h.ok⟩
  have ne := hf (by omega) _ (h1 (by omega))
  rw [World.cell?_setCell_other _ _ _ _ (fun e => ne (by have := congrArg Addr.block e; simpa using this.symm))]
  exact h2 i hi
theorem FS.put {w wr : World} {na nb : Bool} {a b : Option Addr} {n m ca cb g : Nat} {R : Int} (h : FS w na nb a b n m ca cb g R wr) (g4 : w.heap.size + 4 ≤ g) (t : Nat) (v : Value) : FS w na nb a b n m ca cb g R (wr.setCell ⟨g, t, none⟩ v) := by
  obtain ⟨sg, ra, rm, rc, dr, h1, h2, h3⟩ := h.rr
  have ot : ∀ o, (wr.setCell ⟨g, t, none⟩ v).cell? ⟨w.heap.size + 3, o, none⟩ = wr.cell? ⟨w.heap.size + 3, o, none⟩ := fun o => World.cell?_setCell_other _ _ _ _ (fun e => by have := congrArg Addr.block e; simp at this; omega)
  exact ⟨h.aw.next ((Below.refl _ _).setCell (p := ⟨g, t, none⟩) h.gg _), ⟨sg, ra, rm, rc, dr, ⟨(ot 0).trans h1.c0, (ot 1).trans h1.c1, by simpa using h1.lt⟩, ⟨h2.dg.set1 (fun p x hx => (h3 p x hx).2) v, h2.trim, h2.pos, h2.val, h2.small⟩, h3⟩, fun o => by simpa using h.fz o, by simpa using h.gl, h.gg⟩
theorem wrap_p2 {s : Nat} (hs : s < 16) : IntKind.u64.wrap (2 ^ s) = p2 s := by
  have a := p2_le (show s ≤ 16 by omega)
  have b := p2_pos s
  have g : p2 16 = 65536 := by decide
  rw [← p2_pow]
  exact wrapId (by omega) (by omega)
theorem dval_half {qs : List Int} {k : Nat} {Q : Int} (h : dval qs = Q * p2 (k + 1)) : dval qs = 2 * Q * p2 k := by
  rw [h]; simp only [p2]; rw [Int.mul_comm 2 Q, Int.mul_assoc]
/-- What comes of it, by the signs. -/
theorem fdiv_signs {na nb : Bool} {x y A B Q R : Int} (hx : x = sgn na A) (hy : y = sgn nb B) (hA : 0 ≤ A) (hB : 0 < B) (h : A = Q * B + R ∧ 0 ≤ R ∧ R < B ∧ 0 ≤ Q) (hz : na = true → 0 < A) :
    (na = nb → x.fdiv y = Q) ∧ (na ≠ nb → R = 0 → x.fdiv y = -Q) ∧ (na ≠ nb → 0 < R → x.fdiv y = -Q + -1) := by
  obtain ⟨h1, h2, h3, h4⟩ := h
  have q : A / B = Q := by rw [Int.ediv_eq_iff_of_pos hB]; omega
  have r : A % B = R := by rw [Int.emod_def, q, Int.mul_comm]; omega
  have dv : R = 0 → B ∣ A := fun z => ⟨Q, by rw [Int.mul_comm]; omega⟩
  have nd : 0 < R → ¬ B ∣ A := fun z d => by rw [Int.emod_eq_zero_of_dvd d] at r; omega
  refine ⟨fun e => ?_, fun e z => ?_, fun e z => ?_⟩
  · subst e
    cases na
    · rw [hx, hy, sgn_false, sgn_false, Int.fdiv_eq_ediv_of_nonneg _ (by omega)]; exact q
    · rw [hx, hy, sgn_true, sgn_true, Int.neg_fdiv_neg, Int.fdiv_eq_ediv_of_nonneg _ (by omega)]; exact q
  · have d := dv z
    cases na <;> cases nb <;> simp only [ne_eq, not_true, Bool.false_eq_true, Bool.true_eq_false, not_false_eq_true] at e
    · rw [hx, hy, sgn_false, sgn_true, Int.fdiv_neg (by omega), if_pos d, Int.fdiv_eq_ediv_of_nonneg _ (by omega), q]
    · rw [hx, hy, sgn_true, sgn_false, Int.neg_fdiv, if_pos (Or.inr d), Int.fdiv_eq_ediv_of_nonneg _ (by omega), q]; omega
  · have d := nd z
    cases na <;> cases nb <;> simp only [ne_eq, not_true, Bool.false_eq_true, Bool.true_eq_false, not_false_eq_true] at e
    · rw [hx, hy, sgn_false, sgn_true, Int.fdiv_neg (by omega), if_neg d, Int.fdiv_eq_ediv_of_nonneg _ (by omega), q]; omega
    · rw [hx, hy, sgn_true, sgn_false, Int.neg_fdiv, if_neg (fun h => by rcases h with h | h; omega; exact d h), Int.fdiv_eq_ediv_of_nonneg _ (by omega), q]; omega
/-- The result is stored in its place. -/
theorem AddW.last {w W : World} {na nb : Bool} {a b : Option Addr} {n m ca cb : Nat} (h : AddW w na nb a b n m ca cb W) {sg : Bool} {x : Option Addr} {k c : Nat} {ds : List Int} {v : Int} (G : Bg W sg x k c ds v) (o : 0 < k → ∀ z, x = some z → w.heap.size + 4 ≤ z.block) :
    NewB w ((W.setCell ⟨w.heap.size + 2, 0, none⟩ (.bool sg)).setCell ⟨w.heap.size + 2, 1, none⟩ (.slice x k c)) (.returned (.agg #[.bool sg, .slice x k c])) v ∧ Below w.heap.size w ((W.setCell ⟨w.heap.size + 2, 0, none⟩ (.bool sg)).setCell ⟨w.heap.size + 2, 1, none⟩ (.slice x k c)) :=
  ⟨⟨sg, x, k, c, ds, rfl, G.store (fun p z hz => by have := o p z hz; omega) _ _, fun p z hz => by have := o p z hz; omega⟩,
   (h.bl.setCell (p := ⟨w.heap.size + 2, 0, none⟩) (Nat.le_add_right _ _) _).setCell (p := ⟨w.heap.size + 2, 1, none⟩) (Nat.le_add_right _ _) _⟩
theorem AddW.set2 {w W : World} {na nb : Bool} {a b : Option Addr} {n m ca cb c : Nat} (h : AddW w na nb a b n m ca cb W) (hc : w.heap.size + 3 ≤ c) (u v : Value) : AddW w na nb a b n m ca cb ((W.setCell ⟨c, 0, none⟩ u).setCell ⟨c, 1, none⟩ v) :=
  h.next (((Below.refl _ _).setCell (p := ⟨c, 0, none⟩) hc _).setCell (p := ⟨c, 1, none⟩) hc _)
theorem sm_of {R B : Int} (h0 : 0 ≤ R) (h1 : R < B) (h2 : B < pw 15) : Sm R := ⟨by have := pw_pos 15; omega, by omega⟩

set_option maxHeartbeats 8000000 in
set_option maxRecDepth 100000 in
theorem bfloor_walk (na nb : Bool) (a b : Option Addr) (n m ca cb : Nat) (da db : List Int) (x y : Int) (w : World) (ha : Bg w na a n ca da x) (hb : Bg w nb b m cb db y) (sx : Sm x) (sy : Sm2 y) (hy : 0 < m) :
    Calls Try.prog 22 #[.agg #[.bool na, .slice a n ca], .agg #[.bool nb, .slice b m cb]] w fun e w' => NewB w w' e (x.fdiv y) ∧ Below w.heap.size w w' := by
  have n32 := ha.small
  have m32 := hb.small
  have HA : Hid _ := ha
  have HB : Hid _ := hb
  have SX : Hid _ := ha.sm sx
  have SY0 := hb.sm2 sy
  have SY : Hid (dval db < pw 15) := by show _ < _; have : pw 14 < pw 15 := by decide
                                        omega
  have SY2 : Hid (2 * dval db < pw 15) := by show _ < _; have : 2 * pw 14 < pw 15 := by decide
                                             omega
  clear SY0
  have BP : Hid (0 < dval db) := trim_pos hb.dg.ok hb.trim (by rw [hb.dg.len]; exact hy)
  have ST : Hid _ := FS.start w na nb a b n m ca cb
  clear ha hb sx sy
  go_enter Try.func22, Try.ntmps22
  go_wp2_with fail
  go_loopg [5, 7] (16 * n) (fun gh v iv wr => ∃ (j g : Nat) (Q R : Int), gh = j ∧ iv = .int .i64 ((j : Int) - 1) ∧ j ≤ 16 * n ∧ Hid (FS w na nb a b n m ca cb g R wr) ∧ Hid (QS w wr v g n j Q) ∧ Hid (dval da / p2 j = Q * dval db + R ∧ 0 ≤ R ∧ R < dval db ∧ 0 ≤ Q))
  case atStart => exact ⟨16 * n, w.heap.size + 3, 0, 0, rfl, by go_num, Nat.le_refl _, ST.out, .inl ⟨rfl, rfl, rfl, rfl⟩, by
    show _ ∧ _
    refine ⟨?_, by omega, BP.out, by omega⟩
    rw [p2_16, Int.ediv_eq_zero_of_lt (dval_nonneg HA.out.dg.ok) (by have := dval_lt HA.out.dg.ok; rw [HA.out.dg.len] at this; exact this)]
    omega⟩
  case round =>
    obtain ⟨j, g, Q, R, rfl, rfl, hj, hF, hQ, hv⟩ := hrel
    cases gk with
    | succ k =>
      rw [show ((k + 1 : Nat) : Int) - 1 = (k : Int) by omega]
      obtain ⟨t, s, ht, hs, hdiv, hmod⟩ : ∃ t s : Nat, k = 16 * t + s ∧ s < 16 ∧ (k : Int) / 16 = (t : Int) ∧ (k : Int) % 16 = (s : Int) := ⟨k / 16, k % 16, by omega, by omega, by omega, by omega⟩
      have HT : Hid _ := ht
      have tn : t < n := by omega
      have tn' : (t : Int) < (n : Int) := by omega
      have kb : (k : Int) < 1000 := by omega
      clear ht
      have RB : Hid (R + R < pw 15 + pw 15) := by have := hv.out; have := SY.out; show _ < _; omega
      obtain ⟨sg, ra, rm, rc, dr, S, G, hne⟩ := hF.out.rr
      have t0 := S.c0
      have t1 := S.c1
      have HG : Hid _ := G
      have sR : Hid (Sm R) := sm_of hv.out.2.1 hv.out.2.2.1 SY.out
      clear S G hne
      go_upto_region 6 with fail
      go_cut [] (fun wx => Hid (FS w na nb a b n m ca cb g (R + R) wx) ∧ Hid (QS w wx u5 g n (k + 1) Q))
      case first =>
        go_wp2_with fail
        refine (badd_sm HG.out HG.out sR.out sR.out).mono ?_
        rintro e w1 ⟨⟨sg1, a1, m1, c1, d1, rfl, g1, f1⟩, hb1⟩
        have F1 := hF.out.below hb1
        obtain ⟨_, _, _, _, _, S1, _, _⟩ := F1.rr
        have e0 := S1.c0
        have e1 := S1.c1
        have e2 := F1.fz
        have HFS : Hid _ := hF.out.step hb1 g1 f1
        have HQS : Hid (∀ x y, QS w ((w1.setCell ⟨w.heap.size + 3, 0, none⟩ x).setCell ⟨w.heap.size + 3, 1, none⟩ y) u5 g n (k + 1) Q) := fun x y => hQ.out.step hb1
        clear F1 S1 g1 f1 hb1 t0 t1
        go_wp2
        go_meet
        case rel => exact ⟨HFS.out, HQS.out _ _⟩
      case rest =>
        obtain ⟨hF1, hQ1⟩ := hcut
        clear hF hQ t0 t1 HG
        obtain ⟨ba, oa, h1, h2⟩ := HA.out.dg.cell
        have e1 := h2 t tn
        have e1' : wc.cell? ⟨ba, oa + t, none⟩ = some (.int .u64 (da.getD t 0)) := by rw [hF1.out.aw.bl.cell (p := ⟨ba, oa + t, none⟩) (World.block_lt_of_cell? _ _ e1)]; exact e1
        have ea : a = some ⟨ba, oa, none⟩ := h1 (by omega)
        have t2 : wc.cell? ⟨w.heap.size, 1, none⟩ = some (.slice (some ⟨ba, oa, none⟩) n ca) := by rw [← ea]; exact hF1.out.aw.a1
        have y1 := HA.out.dg.ok.getD t
        have bt := bit_of HA.out.dg.ok t s hs
        rw [← HT.out] at bt
        have BT : Hid _ := bt
        have EA : Hid _ := ea
        clear e1 h1 h2 bt ea
        generalize da.getD t 0 = x1 at *
        unfold K16 at y1
        have ps := p2_pos s
        have pe := p2_pow s
        have q0 : 0 ≤ x1 / p2 s := Int.ediv_nonneg y1.1 (by omega)
        have q1 : x1 / p2 s ≤ x1 := Int.ediv_le_self _ y1.1
        have an := and1 (x1 / p2 s) q0 (by omega)
        rw [pe] at an
        have ANE : Hid (p2 s = 2 ^ s) := pe
        have bit01 : x1 / p2 s % 2 = 0 ∨ x1 / p2 s % 2 = 1 := by omega
        rw [pe] at bit01
        clear pe q0 q1 ps
        go_upto_if 33 with fail
        go_cut [] (fun wx => Hid (FS w na nb a b n m ca cb g (R + R + dval da / p2 k % 2) wx) ∧ Hid (QS w wx u5 g n (k + 1) Q))
        case first =>
          clear t2 e1'
          rcases bit01 with bz | bz
          · have bz' : Hid (dval da / p2 k % 2 = 0) := by show _ = _; rw [BT.out, ANE.out]; exact bz
            have tb : (x1 / 2 ^ s % 2 == 1) = false := by rw [bz]; rfl
            clear bz an
            go_wp2
            go_meet
            case rel => exact ⟨by show FS _ _ _ _ _ _ _ _ _ _ _ _; rw [bz'.out, Int.add_zero]; exact hF1.out, hQ1.out⟩
          · have bz' : Hid (dval da / p2 k % 2 = 1) := by show _ = _; rw [BT.out, ANE.out]; exact bz
            have tb : (x1 / 2 ^ s % 2 == 1) = true := by rw [bz]; rfl
            clear bz an
            obtain ⟨sg, ra, rm, rc, dr, S, G, hne⟩ := hF1.out.rr
            have t0 := S.c0
            have t1 := S.c1
            have HG : Hid _ := G
            have HS3 : Hid _ := S
            have sRR : Hid (Sm (R + R)) := ⟨by have := hv.out; have := pw_pos 15; omega, by have := hv.out; have := SY2.out; omega⟩
            have one : Hid (Sm 1) := by show Sm 1; unfold Sm; decide
            clear G hne S
            have l3 : w.heap.size + 1 + 1 + 1 < wc.heap.size := by have := hF1.out.aw.sz; have := hF1.out.gl; have := hF1.out.gg; omega
            go_wp2_with fail
            go_region_with (first | (go_at_call 17; refine (bof_any _ _ (by decide) (by decide)).mono ?_; rintro e w1 ⟨⟨sg1, a1, m1, c1, d1, rfl, g1, f1⟩, hb1⟩; have F1 : Hid _ := hF1.out.below ((Below.refl _ _).drew.trans hb1); have S1 := HS3.out.below ((Below.refl _ _).drew.trans hb1); have r0 := S1.c0; have r1 := S1.c1) | (go_at_call 19; refine (badd_sm (HG.out.below ((Below.refl _ _).drew.trans hb1)) g1 sRR.out one.out).mono ?_; rintro e w2 ⟨⟨sg2, a2, m2, c2, d2, rfl, g2, f2⟩, hb2⟩; have F2 := F1.out.below hb2; obtain ⟨_, _, _, _, _, S2, _, _⟩ := F2.rr; have e0 := S2.c0; have e1 := S2.c1; have e2 := F2.fz))
            all_goals
              have FN : Hid _ := F1.out.step hb2 g2 f2
              have QN : Hid (∀ x y, QS w ((w2.setCell ⟨w.heap.size + 3, 0, none⟩ x).setCell ⟨w.heap.size + 3, 1, none⟩ y) u5 g n (k + 1) Q) := fun x y => (hQ1.out.below ((Below.refl _ _).drew.trans hb1)).step hb2
              go_wp2
              go_meet
              exact ⟨by show FS _ _ _ _ _ _ _ _ _ _ _ _; rw [bz'.out]; exact FN.out, QN.out _ _⟩
        case rest =>
          obtain ⟨hF2, hQ2⟩ := hcut
          clear hF1 hQ1 t2 e1' an bit01 BT y1
          have RQ : Hid _ := rq_of hv.out
          clear hv RB
          generalize R + R + dval da / p2 k % 2 = R1 at *
          go_upto_block 2 with fail
          go_cut [5] (fun v' wx => ∃ (g' cap : Nat) (qs : List Int), v' = .slice (some ⟨g', 0, none⟩) n cap ∧ Hid (FS w na nb a b n m ca cb g' R1 wx) ∧ Hid (QR wx g' n cap qs) ∧ w.heap.size + 4 ≤ g' ∧ Hid (dval qs = Q * p2 (k + 1)) ∧ Hid (Lowz qs (k + 1)))
          case first =>
            rcases hQ2.out with ⟨rfl, hk16, rfl, rfl⟩ | ⟨cap, qs, rfl, h1, h2, h3, h4⟩
            · obtain ⟨i0, hi, hz0, hz1, hz2⟩ := info_parts info26
              have HI : Hid _ := hi
              have HZ : Hid _ := And.intro hz0 (And.intro hz1 hz2)
              have tl : t + 1 = n := by have := HT.out; omega
              have TL : Hid _ := tl
              clear hi hz0 hz1 hz2 hQ2 hk16 tl
              go_wp2_with fail
              go_loopg [5] n (fun gh v wx => ∃ (L cv : Nat) (av : Option Addr) (ds : List Int), gh = n - L ∧ L ≤ n ∧ v = .slice av L cv ∧ Hid (ds = List.replicate L 0) ∧ Hid (ds.length = L) ∧ wx.ownsRow wc.heap.size 26 1 (.slice av L cv) ds.length (ds.map (Value.int .u64)) ∧ Below wc.heap.size wc wx ∧ wc.heap.size ≤ wx.heap.size)
              case atStart => exact ⟨0, 0, none, [], rfl, by omega, rfl, rfl, rfl, World.ownsRow_nil _ _ _ _, Below.refl _ _, Nat.le_refl _⟩
              case round =>
                obtain ⟨L, cv, av, ds, rfl, hL, rfl, hds, hdl, hown, hbl, hsz⟩ := hrel
                by_cases c : L < n
                · have tt : (L : Int) ≤ (t : Int) := by have := TL.out; omega
                  have l32 : ds.length ≤ 32 := by rw [hdl.out]; omega
                  go_wp2_with (first | (at_builtin; refine wpList_append_own _ rfl (.tmp 42) (.tmp 43) 33 rfl wc.heap.size 26 i0 (.int .u64 0) 1 8 Try.underlying33 HI.out HZ.out.1 HZ.out.2.1 HZ.out.2.2 rfl (by decide) _ _ _ rfl (hown.alloc _) ⟨wr.heap.size, 0, none⟩ 1 1 [.int .u64 0] rfl rfl ?c1 ?c2 ?c3 ?c4 ?c5 ?_))
                  case c1 => exact cell_one_new _ _ _
                  case c2 => intro u hu; simp at hu; subst hu; rfl
                  case c3 => unfold maxLen; omega
                  case c4 => omega
                  case c5 => simp; omega
                  intro v' w1 hown' hgrow _
                  have R0 := owns_step hsz hbl hown hown' hgrow
                  have ok' : DsOk (ds ++ [0]) := by rw [hds.out]; exact (zeros_ok L).snoc (by omega) (by decide)
                  obtain ⟨a2, c2, rfl, _, _⟩ := Dg.of_owns R0.1 ok'
                  have hl2 : (ds ++ [0]).length = L + 1 := by rw [List.length_append, hdl.out]; rfl
                  have R1' := R0.1
                  rw [hl2] at R1' ⊢
                  have hds' : Hid (ds ++ [0] = List.replicate (L + 1) 0) := by show _ = _; rw [hds.out, List.replicate_succ']
                  have HR : Hid _ := And.intro R1' R0.2
                  have HL2 : Hid _ := hl2
                  clear hown hown' hgrow R0 R1' ok' hl2
                  go_wp2
                  go_roundg (n - (L + 1))
                  case measure => omega
                  case rel => exact ⟨L + 1, c2, a2, ds ++ [0], rfl, by omega, rfl, hds', HL2.out, by rw [HL2.out]; exact HR.out.1, HR.out.2.1, HR.out.2.2⟩
                · have tt : ¬ (L : Int) ≤ (t : Int) := by have := TL.out; omega
                  have hLn : L = n := by omega
                  obtain ⟨g', cap, hve, hqr, hbg⟩ := QR.of_owns hown (by rw [hds.out]; exact zeros_ok L) (by rw [hdl.out]; omega)
                  rw [hdl.out] at hve
                  have HVE : Hid _ := hve
                  have HQR : Hid (QR wr g' n cap ds) := by show QR _ _ _ _ _; rw [← hLn, ← hdl.out]; exact hqr
                  have HFN : Hid _ := hF2.out.move hbl hbg hqr.lt
                  have gl4 : w.heap.size + 4 ≤ g' := by have := hF2.out.gl; have := hF2.out.gg; omega
                  have hzl : Hid (dval ds = 0 * p2 (k + 1)) := by show _ = _; rw [hds.out, dval_zeros]; omega
                  have hlz : Hid (Lowz ds (k + 1)) := by show Lowz _ _; rw [hds.out]; exact zeros_lowz _ _
                  clear hown hbl hve hqr
                  go_wp2
                  go_meet
                  case rel => exact ⟨g', cap, ds, by rw [← hLn]; exact HVE.out, HFN.out, HQR.out, gl4, hzl, hlz⟩
            · have HX : Hid _ := And.intro h1 (And.intro h2 (And.intro h3 h4))
              clear h1 h2 h3 h4 hQ2
              go_wp2_with fail
              go_loop [5] (fun v => v = .slice (some ⟨g, 0, none⟩) n cap) (fun _ => 0)
              case atStart => rfl
              case round =>
                subst hrel
                have tt : ¬ (n : Int) ≤ (t : Int) := by omega
                go_wp2
                go_meet
                case rel => exact ⟨g, cap, qs, rfl, hF2.out, HX.out.1, HX.out.2.1, HX.out.2.2.1, HX.out.2.2.2⟩
          case rest =>
            obtain ⟨g', cap, qs, rfl, hF3, hR3, hg4, hd3, hl3⟩ := hcut
            clear hF2 hQ2
            obtain ⟨sg, ra, rm, rc, dr, S, G, hne⟩ := hF3.out.rr
            have t0 := S.c0
            have t1 := S.c1
            have t3 := hF3.out.aw.b1
            have GB := HB.out.below hF3.out.aw.bl
            have ab := G.abs RQ.out.2.1
            have HG : Hid _ := G
            have less := less_any ra b rm m rc cb dr db wc G.dg GB.dg G.trim GB.trim (by have := G.small; omega) (by omega)
            rw [ab] at less
            have LS : Hid _ := less
            have GBH : Hid _ := GB
            clear S G hne GB ab less
            by_cases lt : R1 < dval db
            · have LT : Hid _ := lt
              have dec : decide (R1 < dval db) = true := by simp [lt]
              clear lt
              go_wp2_with fail
              refine Calls.mono LS.out ?_
              rintro e w3 ⟨rfl, k3, rfl⟩
              rw [dec]
              clear dec t0 t1 t3
              go_wp2
              go_roundg k
              case measure => omega
              case rel => exact ⟨k, g', 2 * Q, R1, rfl, by go_num, by omega, hF3.out.below (below_drewN (Below.refl _ _) k3), .inr ⟨cap, qs, rfl, hR3.out.below (below_drewN (Below.refl _ _) k3), hg4, dval_half hd3.out, by rw [HT.out]; exact Lowz.keep hR3.out.ok hs (by rw [← HT.out]; exact hl3.out)⟩, ⟨RQ.out.1, RQ.out.2.1, LT.out, by have := RQ.out.2.2.2; omega⟩⟩
            · have LT : Hid (dval db ≤ R1) := by show _ ≤ _; omega
              have dec : decide (R1 < dval db) = false := by simp; omega
              clear lt
              go_wp2_with fail
              refine Calls.mono LS.out ?_
              rintro e w3 ⟨rfl, k3, rfl⟩
              rw [dec]
              clear dec
              have F4 : Hid _ := hF3.out.below (below_drewN (Below.refl _ _) k3)
              have Q4 : Hid _ := hR3.out.below (below_drewN (Below.refl _ _) k3)
              have G4 : Hid _ := HG.out.below (below_drewN (Below.refl _ _) k3)
              have GB4 : Hid _ := GBH.out.below (below_drewN (Below.refl _ _) k3)
              have GM : Hid (Bg (wc.drewN k3) true b m cb db (-dval db)) := ⟨GB4.out.dg, GB4.out.trim, fun _ => hy, rfl, GB4.out.small⟩
              have sR1 : Hid (Sm R1) := ⟨by have := RQ.out; have := pw_pos 15; omega, by have := RQ.out; have := SY2.out; omega⟩
              have sB : Hid (Sm (-dval db)) := ⟨by have := SY.out; omega, by have := BP.out; have := pw_pos 15; omega⟩
              go_upto_region 12 with fail
              go_cut [] (fun wx => Hid (FS w na nb a b n m ca cb g' (R1 + -dval db) wx) ∧ Hid (QR wx g' n cap qs))
              case first =>
                go_wp2_with fail
                refine (badd_sm G4.out GM.out sR1.out sB.out).mono ?_
                rintro e w1 ⟨⟨sg1, a1, m1, c1, d1, rfl, g1, f1⟩, hb1⟩
                have F1 := F4.out.below hb1
                obtain ⟨_, _, _, _, _, S1, _, _⟩ := F1.rr
                have e0 := S1.c0
                have e1 := S1.c1
                have e2 := F1.fz
                have HFS : Hid _ := F4.out.step hb1 g1 f1
                have HQS : Hid (∀ x y, QR ((w1.setCell ⟨w.heap.size + 3, 0, none⟩ x).setCell ⟨w.heap.size + 3, 1, none⟩ y) g' n cap qs) := fun x y => (Q4.out.below hb1).set2 (by omega) x y
                clear F1 S1 g1 f1 hb1 t0 t1 t3
                go_wp2
                go_meet
                case rel => exact ⟨HFS.out, HQS.out _ _⟩
              case rest =>
                obtain ⟨hF5, hQ5⟩ := hcut
                clear t0 t1 t3 F4 Q4 G4 GB4 GM LS GBH HG
                have e3 := hQ5.out.cell t tn
                have e4 := hQ5.out.fz
                have lz := hl3.out
                rw [HT.out] at lz
                have sb := set_bound hQ5.out.ok hs lz
                have ob := or_bit hs (lz.at hQ5.out.ok hs) (by have := hQ5.out.ok.getD t; unfold K16 at this; omega)
                have wp := wrap_p2 hs
                have NQ : Hid (FS w na nb a b n m ca cb g' (R1 + -dval db) (wc.setCell ⟨g', t, none⟩ (.int .u64 (qs.getD t 0 + p2 s))) ∧ QR (wc.setCell ⟨g', t, none⟩ (.int .u64 (qs.getD t 0 + p2 s))) g' n cap (qs.set t (qs.getD t 0 + p2 s))) :=
                  ⟨hF5.out.put hg4 t _, hQ5.out.set tn sb.1 (by unfold K16; exact sb.2)⟩
                have tl : t < qs.length := by rw [hQ5.out.len]; exact tn
                have dn : Hid (dval (qs.set t (qs.getD t 0 + p2 s)) = (2 * Q + 1) * p2 k) := by
                  show _ = _
                  rw [HT.out]
                  exact dval_bit tl (by rw [← HT.out]; exact hd3.out)
                have ln : Hid (Lowz (qs.set t (qs.getD t 0 + p2 s)) k) := by
                  show Lowz _ _
                  rw [HT.out]
                  exact Lowz.set hQ5.out.ok hs tl lz
                have TL : Hid _ := tl
                clear lz sb tl hF5 hQ5 hl3 hd3 hF3 hR3
                generalize hq : qs.set t (qs.getD t 0 + p2 s) = qs' at *
                generalize qs.getD t 0 = z at *
                clear hq
                go_wp2
                go_roundg k
                case measure => omega
                case rel => exact ⟨k, g', 2 * Q + 1, R1 + -dval db, rfl, by go_num, by omega, NQ.out.1, .inr ⟨cap, qs', rfl, NQ.out.2, hg4, dn.out, ln.out⟩, ⟨by have := div_more RQ.out.1; omega, by have := LT.out; omega, by have := RQ.out.2.2.1; omega, by have := RQ.out.2.2.2; omega⟩⟩
    | zero =>
      obtain ⟨av, nv, cv, qs, rfl, hD, hdq, hnv, hfar⟩ : ∃ (av : Option Addr) (nv cv : Nat) (qs : List Int), u5 = .slice av nv cv ∧ Dg wr av nv cv qs ∧ dval qs = Q ∧ nv ≤ 32 ∧ (0 < nv → ∀ x, av = some x → w.heap.size + 4 ≤ x.block) := by
        rcases hQ.out with ⟨rfl, h1, rfl, rfl⟩ | ⟨cap, qs, rfl, h1, h2, h3, h4⟩
        · exact ⟨none, 0, 0, [], rfl, ⟨rfl, Nat.le_refl _, Nat.zero_le _, ⟨0, 0, fun p => by omega, fun i hi => by omega⟩, fun d hd => by simp at hd⟩, rfl, by omega, fun p => by omega⟩
        · exact ⟨_, n, cap, qs, rfl, h1.dg, by rw [h3]; simp only [p2]; omega, n32, fun _ x hx => by simp at hx; subst hx; exact h2⟩
      have HV : Hid (dval da = Q * dval db + R ∧ 0 ≤ R ∧ R < dval db ∧ 0 ≤ Q) := by
        have v := hv.out
        show _ ∧ _
        simp only [p2, Int.ediv_one] at v
        exact v
      have t2 := hF.out.aw.a0
      have t3 := hF.out.aw.b0
      have ql : dval qs < pw 32 := by
        rw [hdq]
        have v := HV.out
        have := SX.out
        have : pw 15 < pw 32 := by decide
        have p := Int.mul_le_mul_of_nonneg_left (show (1 : Int) ≤ dval db by have := BP.out; omega) v.2.2.2
        omega
      have HD : Hid _ := hD
      have HDQ : Hid _ := hdq
      have HFAR : Hid _ := hfar
      have HQL : Hid _ := ql
      clear hQ hv hD hdq hfar ql
      go_upto_region 14 with fail
      go_cut [8] (fun p wx => ∃ (c8 : Nat) (sg : Bool) (k : Nat) (ds : List Int), p = .pointer (some ⟨c8, 0, none⟩) ∧ Hid (Sits wx c8 sg av k cv) ∧ Hid (∀ o, wx.frozen? ⟨c8, o, none⟩ = false) ∧ Hid (Bg wx sg av k cv ds (sgn (na != nb) Q)) ∧ Hid (FS w na nb a b n m ca cb g R wx) ∧ Hid (w.heap.size + 4 ≤ c8) ∧ Hid (0 < k → ∀ x, av = some x → w.heap.size + 4 ≤ x.block ∧ x.block < c8))
      case first =>
        go_wp2_with fail
        refine (trim_any _ _ _ _ _ _ HD.out (by omega)).mono ?_
        rintro e w1 ⟨⟨k, hk, rfl, hcut⟩, hb1⟩
        have old := HD.out.old
        have G1 : Hid _ := Bg.of_cut (neg := !(na == nb)) HD.out hk hcut hb1 HQL.out
        have F1 : Hid _ := hF.out.below hb1
        have sz4 : w.heap.size + 4 ≤ w1.heap.size := by have := hb1.size; have := hF.out.gl; have := hF.out.gg; omega
        have OLD : Hid (0 < k → ∀ x, av = some x → w.heap.size + 4 ≤ x.block ∧ x.block < w1.heap.size) := fun p x hx => ⟨HFAR.out (by omega) x hx, by have := old (by omega) x hx; have := hb1.size; omega⟩
        clear old hcut hb1 t2 t3 hF
        generalize hsg : (!(na == nb) && decide (0 < k)) = sg at *
        clear hsg
        go_wp2
        go_meet
        case rel => exact ⟨_, sg, k, _, rfl, Sits.new _ _ _ _ _, fun o => by simp, HDQ.out ▸ G1.out.below ((Below.refl _ _).alloc (Nat.le_refl _) _), F1.out.below ((Below.refl _ _).alloc (Nat.le_refl _) _), sz4, OLD.out⟩
      case rest =>
        obtain ⟨c8, sg, k, ds, rfl, hS, hZ, hG, hF6, h48, hOLD⟩ := hcut
        clear t2 t3 hF
        have t2 := hF6.out.aw.a0
        have t3 := hF6.out.aw.b0
        obtain ⟨sgr, ra, rm, rc, dr, Sr, Gr, _⟩ := hF6.out.rr
        have r1 := Sr.c1
        have s0 := hS.out.c0
        have s1 := hS.out.c1
        have d0 := hF6.out.aw.r0
        have d1 := hF6.out.aw.r1
        have g0 := hF6.out.aw.fz
        have FD : Hid _ := fdiv_signs HA.out.val HB.out.val (dval_nonneg HA.out.dg.ok) BP.out HV.out (fun e => trim_pos HA.out.dg.ok HA.out.trim (by rw [HA.out.dg.len]; exact HA.out.pos e))
        have Rz : Hid (rm = 0 → R = 0) := fun e => by
          have v := Gr.val
          have : dr = [] := List.length_eq_zero_iff.1 (by rw [Gr.dg.len]; exact e)
          rw [this] at v
          cases sgr <;> simpa [sgn, dval] using v
        have Rp : Hid (0 < rm → 0 < R) := fun e => by
          have ab := Gr.abs HV.out.2.1
          have := trim_pos Gr.dg.ok Gr.trim (by rw [Gr.dg.len]; exact e)
          omega
        clear Sr Gr
        by_cases sm : na = nb
        · have ne : (na == nb) = true := by rw [sm]; exact beq_self_eq_true nb
          have ev : sgn (na != nb) Q = x.fdiv y := by
            rw [FD.out.1 sm]; simp [sm, sgn]
          have L : Hid _ := hF6.out.aw.last (ev ▸ hG.out) (fun p z hz => (hOLD.out p z hz).1)
          clear ev sm
          go_wp2
          exact bodyPost_ret (v := .agg #[.bool sg, .slice av k cv]) (by simp [results, Try.results22, go_sem, d0, d1]) rfl L.out
        · have ne : (na == nb) = false := by simpa using sm
          by_cases rz : rm = 0
          · have ev : sgn (na != nb) Q = x.fdiv y := by
              rw [FD.out.2.1 sm (Rz.out rz)]
              have : (na != nb) = true := by simpa using sm
              rw [this]; rfl
            have L : Hid _ := hF6.out.aw.last (ev ▸ hG.out) (fun p z hz => (hOLD.out p z hz).1)
            clear ev sm
            subst rz
            go_wp2
            exact bodyPost_ret (v := .agg #[.bool sg, .slice av k cv]) (by simp [results, Try.results22, go_sem, d0, d1]) rfl L.out
          · have ev : sgn (na != nb) Q + -1 = x.fdiv y := by
              rw [FD.out.2.2 sm (Rp.out (by omega))]
              have : (na != nb) = true := by simpa using sm
              rw [this]; rfl
            have EV : Hid _ := ev
            have rp : (0 : Int) < (rm : Int) := by omega
            have sQ : Hid (Sm (sgn (na != nb) Q)) := by
              have v := HV.out
              have b1 := SX.out
              have p := Int.mul_le_mul_of_nonneg_left (show (1 : Int) ≤ dval db by have := BP.out; omega) v.2.2.2
              have q : Q < pw 15 := by omega
              have pp := pw_pos 15
              show Sm _
              unfold Sm
              cases (na != nb)
              · rw [sgn_false]; omega
              · rw [sgn_true]; omega
            have one : Hid (Sm (-1)) := by show Sm (-1); unfold Sm; decide
            have c8l := hS.out.lt
            clear ev sm rz
            go_upto_region 16 with fail
            go_cut [] (fun wx => ∃ (sg' : Bool) (a' : Option Addr) (k' c' : Nat) (ds' : List Int), Hid (Sits wx c8 sg' a' k' c') ∧ Hid (Bg wx sg' a' k' c' ds' (x.fdiv y)) ∧ Hid (AddW w na nb a b n m ca cb wx) ∧ Hid (0 < k' → ∀ z, a' = some z → w.heap.size + 4 ≤ z.block))
            case first =>
              clear t2 t3 r1 d0 d1 g0
              go_region_with (first | (go_at_call 17; refine (bof_any _ _ (by decide) (by decide)).mono ?_; rintro e w1 ⟨⟨sg1, a1, m1, c1, d1, rfl, g1, f1⟩, hb1⟩; have S1 := hS.out.below ((Below.refl _ _).drew.trans hb1); have r0 := S1.c0; have r1 := S1.c1) | (go_at_call 19; refine (badd_sm (hG.out.below ((Below.refl _ _).drew.trans hb1)) g1 sQ.out one.out).mono ?_; rintro e w2 ⟨⟨sg2, a2, m2, c2, d2, rfl, g2, f2⟩, hb2⟩; have S2 := (hS.out.below ((Below.refl _ _).drew.trans hb1)).below hb2; have e0 := S2.c0; have e1 := S2.c1; have e2 : ∀ o, w2.frozen? ⟨c8, o, none⟩ = false := (fun o => by rw [hb2.frozen (p := ⟨c8, o, none⟩) (by have := hb1.size; show c8 < _; exact Nat.lt_of_lt_of_le c8l this), hb1.frozen (p := ⟨c8, o, none⟩) c8l]; exact hZ.out o)))
              all_goals go_wp2
              all_goals go_meet
              all_goals
                have b1 := (Below.refl wc.heap.size wc).drew.trans hb1
                have b2 := b1.trans (hb2.mono b1.size)
                exact ⟨sg2, a2, m2, c2, d2, Sits.set S2.c0 S2.c1 S2.lt _ _ _ _, EV.out ▸ g2.store (fun p z hz => by have := f2 p z hz; have := hb1.size; have : wc.drew.heap.size = wc.heap.size := rfl; omega) _ _, ((hF6.out.below b2).aw).set2 (by have := h48.out; omega) _ _, fun p z hz => by have := f2 p z hz; have := h48.out; have := b1.size; omega⟩
            case rest =>
              obtain ⟨sg', a', k', c', ds', hS7, hG7, hA7, hO7⟩ := hcut
              clear t2 t3 r1 s0 s1 d0 d1 g0
              have s0 := hS7.out.c0
              have s1 := hS7.out.c1
              have d0 := hA7.out.r0
              have d1 := hA7.out.r1
              have g0 := hA7.out.fz
              have L : Hid _ := hA7.out.last hG7.out hO7.out
              go_wp2
              exact bodyPost_ret (v := .agg #[.bool sg', .slice a' k' c']) (by simp [results, Try.results22, go_sem, d0, d1]) rfl L.out

end Go.Proofs.Ytlgdolchnlagcaa
