/- A page in its box: what a call's answer, stored there, leaves as it was. -/
import Derived.Test.YtfedcghkohfhlaaSf
import Derived.Test.YtfedcghkohfhlaaPf
import Derived.Test.YtfedcghkohfhlaaX4
import Derived.Test.YtfedcghkohfhlaaV1
namespace Go.Proofs.Ytfedcghkohfhlaa
open Go.RowKit
set_option linter.unusedVariables false
set_option linter.unusedSimpArgs false

/-- A page in a box of its own. -/
structure Bp (w : World) (A : Nat) (a : Option Addr) (m c : Nat) (d : Option Addr) (n f : Nat) (g : Option Addr) (o h : Nat) (p : Pg) : Prop where
  b4 : B4 w A (.bool p.leaf) (.slice a m c) (.slice d n f) (.slice g o h)
  past : ∀ i, 4 ≤ i → w.cell? ⟨A, i, none⟩ = none
  fz : ∀ i, w.frozen? ⟨A, i, none⟩ = false
  pv : Pv w (.agg #[.bool p.leaf, .slice a m c, .slice d n f, .slice g o h]) p
theorem Bp.below {w w' : World} {A : Nat} {a : Option Addr} {m c : Nat} {d : Option Addr} {n f : Nat} {g : Option Addr} {o h : Nat} {p : Pg} (P : Bp w A a m c d n f g o h p) (b : Below w.heap.size w w') : Bp w' A a m c d n f g o h p :=
  ⟨P.b4.below b, fun i hi => (World.cell?_of_block (w := w) (a := ⟨A, i, none⟩) (b.block A P.b4.lt)).trans (P.past i hi), frozen_kept P.fz (b.block A P.b4.lt), P.pv.below b⟩
theorem Bp.mk1 {w : World} {a : Option Addr} {m c : Nat} {d : Option Addr} {n f : Nat} {g : Option Addr} {o h : Nat} {p : Pg} (P : Pv w (.agg #[.bool p.leaf, .slice a m c, .slice d n f, .slice g o h]) p) (t : TypeId) :
    Bp (w.alloc (.cells #[.bool p.leaf, .slice a m c, .slice d n f, .slice g o h] t)) w.heap.size a m c d n f g o h p := by
  refine ⟨B4.new w _ _ _ _ t, fun i hi => ?_, fun i => World.frozen?_alloc_new _ _ _ i, P.below (allocB w _)⟩
  simp
  omega
/-- No text lies in a page's box. -/
theorem Bp.noStr {w : World} {A : Nat} {a : Option Addr} {m c : Nat} {d : Option Addr} {n f : Nat} {g : Option Addr} {o h : Nat} {p : Pg} (P : Bp w A a m c d n f g o h p) (i : Nat) (u : Value) (hu : w.cell? ⟨A, i, none⟩ = some u) : (∀ s, u ≠ .string s) ∧ ∀ z, u ≠ .int .u64 z := by
  rcases Nat.lt_or_ge i 4 with q | q
  · have e : i = 0 ∨ i = 1 ∨ i = 2 ∨ i = 3 := by omega
    rcases e with rfl | rfl | rfl | rfl
    · rw [P.b4.a0] at hu; cases hu; exact ⟨fun s => by simp, fun z => by simp⟩
    · rw [P.b4.a1] at hu; cases hu; exact ⟨fun s => by simp, fun z => by simp⟩
    · rw [P.b4.a2] at hu; cases hu; exact ⟨fun s => by simp, fun z => by simp⟩
    · rw [P.b4.a3] at hu; cases hu; exact ⟨fun s => by simp, fun z => by simp⟩
  · rw [P.past i q] at hu; cases hu
theorem Bp.offS {w : World} {A : Nat} {a : Option Addr} {m c : Nat} {d : Option Addr} {n f : Nat} {g : Option Addr} {o h : Nat} {p : Pg} (P : Bp w A a m c d n f g o h p) {a' : Option Addr} {n' c' : Nat} {ss : List ByteArray} (S : Sl w a' n' c' (sv ss)) : ∀ x, 0 < n' → a' = some x → x.block ≠ A := by
  intro x hn hx e
  obtain ⟨b, o, rfl, _⟩ := S.at hn
  have := S.str (i := 0) hn
  simp at hx
  subst hx
  simp only at e
  subst e
  exact (P.noStr _ _ this).1 _ rfl
theorem Bp.offK {w : World} {A : Nat} {a : Option Addr} {m c : Nat} {d : Option Addr} {n f : Nat} {g : Option Addr} {o h : Nat} {p : Pg} (P : Bp w A a m c d n f g o h p) {a' : Option Addr} {n' c' : Nat} {ks : List Nat} (S : Sl w a' n' c' (kv ks)) : ∀ x, 0 < n' → a' = some x → x.block ≠ A := by
  intro x hn hx e
  obtain ⟨b, o, rfl, _⟩ := S.at hn
  have := S.num (i := 0) hn
  simp at hx
  subst hx
  simp only at e
  subst e
  exact (P.noStr _ _ this).2 _ rfl
theorem Bp.off {w : World} {A : Nat} {a : Option Addr} {m c : Nat} {d : Option Addr} {n f : Nat} {g : Option Addr} {o h : Nat} {p q : Pg} {v : Value} (P : Bp w A a m c d n f g o h p) (Q : Pv w v q) : Off v A := by
  intro l a1 m1 c1 a2 m2 c2 a3 m3 c3 e
  subst e
  obtain ⟨ka, kn, kc, va, vn, vc, ia, im, ic, e, h1, h2, h3⟩ := Q.ex
  simp at e
  obtain ⟨_, ⟨rfl, rfl, rfl⟩, ⟨rfl, rfl, rfl⟩, rfl, rfl, rfl⟩ := e
  exact ⟨P.offS h1, P.offS h2, P.offK h3⟩
/-- A page's world with another page stored in its box. -/
def st4 (W : World) (r : Nat) (v0 v1 v2 v3 : Value) : World := (((W.setCell ⟨r, 0, none⟩ v0).setCell ⟨r, 1, none⟩ v1).setCell ⟨r, 2, none⟩ v2).setCell ⟨r, 3, none⟩ v3
theorem Bp.put {w : World} {A : Nat} {a : Option Addr} {m c : Nat} {d : Option Addr} {n f : Nat} {g : Option Addr} {o h : Nat} {p : Pg} (P : Bp w A a m c d n f g o h p) {a' : Option Addr} {m' c' : Nat} {d' : Option Addr} {n' f' : Nat} {g' : Option Addr} {o' h' : Nat} {q : Pg} (Q : Pv w (.agg #[.bool q.leaf, .slice a' m' c', .slice d' n' f', .slice g' o' h']) q) :
    Bp (st4 w A (.bool q.leaf) (.slice a' m' c') (.slice d' n' f') (.slice g' o' h')) A a' m' c' d' n' f' g' o' h' q ∧ w.grownBy (st4 w A (.bool q.leaf) (.slice a' m' c') (.slice d' n' f') (.slice g' o' h')) (some A) := by
  obtain ⟨s1, s2⟩ := stored4 P.b4 (.bool q.leaf) (.slice a' m' c') (.slice d' n' f') (.slice g' o' h')
  refine ⟨⟨s1, fun i hi => ?_, fun i => by unfold st4; simp [P.fz], Q.out s2 (P.off Q)⟩, s2⟩
  have ne : ∀ j, j < 4 → (⟨A, j, none⟩ : Addr) ≠ ⟨A, i, none⟩ := fun j hj k => by injection k with _ k; omega
  have ne' : ∀ j, j < 4 → (⟨A, i, none⟩ : Addr) ≠ ⟨A, j, none⟩ := fun j hj k => ne j hj k.symm
  unfold st4
  first
  | rw [World.cell?_setCell_other _ _ _ _ (ne 3 (by omega)), World.cell?_setCell_other _ _ _ _ (ne 2 (by omega)), World.cell?_setCell_other _ _ _ _ (ne 1 (by omega)), World.cell?_setCell_other _ _ _ _ (ne 0 (by omega))]; exact P.past i hi
  | rw [World.cell?_setCell_other _ _ _ _ (ne' 3 (by omega)), World.cell?_setCell_other _ _ _ _ (ne' 2 (by omega)), World.cell?_setCell_other _ _ _ _ (ne' 1 (by omega)), World.cell?_setCell_other _ _ _ _ (ne' 0 (by omega))]; exact P.past i hi
theorem Bp.far {w w' : World} {A B : Nat} {a : Option Addr} {m c : Nat} {d : Option Addr} {n f : Nat} {g : Option Addr} {o h : Nat} {p : Pg} (P : Bp w B a m c d n f g o h p) {a' : Option Addr} {m' c' : Nat} {d' : Option Addr} {n' f' : Nat} {g' : Option Addr} {o' h' : Nat} {q : Pg} (Q : Bp w A a' m' c' d' n' f' g' o' h' q) (gr : w.grownBy w' (some A)) (ne : A ≠ B) : Bp w' B a m c d n f g o h p := by
  have k := gr.block B P.b4.lt (by simpa using Ne.symm ne)
  exact ⟨P.b4.kept k, fun i hi => (World.cell?_of_block (w := w) (a := ⟨B, i, none⟩) k).trans (P.past i hi), frozen_kept P.fz k, P.pv.out gr (Q.off P.pv)⟩

/-- Two leaves in their boxes, their values their keys. -/
structure Oi (w wr : World) (A B : Nat) (La Lb : List ByteArray) (a : Option Addr) (m c : Nat) (d : Option Addr) (n f : Nat) (g : Option Addr) (o h : Nat) (a' : Option Addr) (m' c' : Nat) (d' : Option Addr) (n' f' : Nat) (g' : Option Addr) (o' h' : Nat) : Prop where
  one : Bp wr A a m c d n f g o h (lf La)
  two : Bp wr B a' m' c' d' n' f' g' o' h' (lf Lb)
  bel : Below w.heap.size w wr
  hA : w.heap.size ≤ A
  hB : w.heap.size ≤ B
  ne : A ≠ B
theorem Oi.below {w wr w2 : World} {A B : Nat} {La Lb : List ByteArray} {a : Option Addr} {m c : Nat} {d : Option Addr} {n f : Nat} {g : Option Addr} {o h : Nat} {a' : Option Addr} {m' c' : Nat} {d' : Option Addr} {n' f' : Nat} {g' : Option Addr} {o' h' : Nat}
    (O : Oi w wr A B La Lb a m c d n f g o h a' m' c' d' n' f' g' o' h') (b : Below wr.heap.size wr w2) : Oi w w2 A B La Lb a m c d n f g o h a' m' c' d' n' f' g' o' h' :=
  ⟨O.one.below b, O.two.below b, nextB O.bel b, O.hA, O.hB, O.ne⟩
theorem Oi.putA {w wr : World} {A B : Nat} {La Lb : List ByteArray} {a : Option Addr} {m c : Nat} {d : Option Addr} {n f : Nat} {g : Option Addr} {o h : Nat} {a' : Option Addr} {m' c' : Nat} {d' : Option Addr} {n' f' : Nat} {g' : Option Addr} {o' h' : Nat}
    (O : Oi w wr A B La Lb a m c d n f g o h a' m' c' d' n' f' g' o' h') {L : List ByteArray} {a2 : Option Addr} {m2 c2 : Nat} {d2 : Option Addr} {n2 f2 : Nat} {g2 : Option Addr} {o2 h2 : Nat} (Q : Pv wr (.agg #[.bool true, .slice a2 m2 c2, .slice d2 n2 f2, .slice g2 o2 h2]) (lf L)) :
    Oi w (st4 wr A (.bool true) (.slice a2 m2 c2) (.slice d2 n2 f2) (.slice g2 o2 h2)) A B L Lb a2 m2 c2 d2 n2 f2 g2 o2 h2 a' m' c' d' n' f' g' o' h' := by
  obtain ⟨k1, k2⟩ := O.one.put (q := lf L) Q
  exact ⟨k1, O.two.far O.one k2 O.ne, O.bel.grown k2 O.bel.size (fun k hk => by cases hk; exact O.hA), O.hA, O.hB, O.ne⟩
theorem Oi.putB {w wr : World} {A B : Nat} {La Lb : List ByteArray} {a : Option Addr} {m c : Nat} {d : Option Addr} {n f : Nat} {g : Option Addr} {o h : Nat} {a' : Option Addr} {m' c' : Nat} {d' : Option Addr} {n' f' : Nat} {g' : Option Addr} {o' h' : Nat}
    (O : Oi w wr A B La Lb a m c d n f g o h a' m' c' d' n' f' g' o' h') {L : List ByteArray} {a2 : Option Addr} {m2 c2 : Nat} {d2 : Option Addr} {n2 f2 : Nat} {g2 : Option Addr} {o2 h2 : Nat} (Q : Pv wr (.agg #[.bool true, .slice a2 m2 c2, .slice d2 n2 f2, .slice g2 o2 h2]) (lf L)) :
    Oi w (st4 wr B (.bool true) (.slice a2 m2 c2) (.slice d2 n2 f2) (.slice g2 o2 h2)) A B La L a m c d n f g o h a2 m2 c2 d2 n2 f2 g2 o2 h2 := by
  obtain ⟨k1, k2⟩ := O.two.put (q := lf L) Q
  exact ⟨O.one.far O.two k2 O.ne.symm, k1, O.bel.grown k2 O.bel.size (fun k hk => by cases hk; exact O.hB), O.hA, O.hB, O.ne⟩

/-- The keys put so far. -/
structure Lk (ks : List ByteArray) (M : Nat → Prop) (n : Nat) (L : List ByteArray) : Prop where
  rise : Rise L
  mem : ∀ x, x ∈ L ↔ ∃ j, M j ∧ j < ks.length ∧ kAt ks j = x
  len : L.length = n
  tot : tot L ≤ 40 * n
theorem Lk.nil (ks : List ByteArray) {M : Nat → Prop} (h : ∀ j, ¬ M j) : Lk ks M 0 [] :=
  ⟨fun i j _ hj => by simp at hj, fun x => ⟨fun h => (by cases h), fun ⟨j, hj, _⟩ => absurd hj (h j)⟩, rfl, by simp [Go.Proofs.Ytfedcghkohfhlaa.tot]⟩
theorem Lk.put {ks : List ByteArray} {M N : Nat → Prop} {n i : Nat} {L : List ByteArray} (h : Lk ks M n L) (hi : i < ks.length) (sz : (kAt ks i).size ≤ 40) (new : ∀ j, M j → j < ks.length → kAt ks j ≠ kAt ks i) (hN : ∀ j, N j ↔ M j ∨ j = i) :
    fnd L (kAt ks i) = false ∧ Lk ks N (n + 1) (insK L (kAt ks i)) := by
  have f : fnd L (kAt ks i) = false := (fnd_not h.rise).2 (fun m => by obtain ⟨j, h1, h2, h3⟩ := (h.mem _).1 m; exact new j h1 h2 h3)
  refine ⟨f, insK_rise h.rise f, fun x => ?_, by rw [insK_len, h.len], ?_⟩
  · rw [insK_mem, h.mem]
    constructor
    · rintro (rfl | ⟨j, h1, h2, h3⟩)
      · exact ⟨i, (hN i).2 (Or.inr rfl), hi, rfl⟩
      · exact ⟨j, (hN j).2 (Or.inl h1), h2, h3⟩
    · rintro ⟨j, h1, h2, h3⟩
      rcases (hN j).1 h1 with q | q
      · exact Or.inr ⟨j, q, h2, h3⟩
      · subst q; exact Or.inl h3.symm
  · unfold insK
    rw [tot_ins]
    have := h.tot
    omega
theorem Lk.fit {ks : List ByteArray} {M : Nat → Prop} {n : Nat} {L : List ByteArray} (h : Lk ks M n L) (hn : n ≤ 12) : Fit (lf L) := by
  have a := h.len
  have b := h.tot
  exact ⟨by simp only [lf]; omega, by simp only [lf]; omega, by simp [lf], by simp only [lf]; omega, by simp only [lf]; omega, fun k hk => by simp [lf] at hk, fun _ => rfl⟩

end Go.Proofs.Ytfedcghkohfhlaa
