/- What the document tells of a key. What the laws' shells share. Slices of structs whose fields take one cell each, as they came in. Changes that came in; small. Rows of items that a law holds. -/
import Derived.Test.YthdjghmipepppaaNc
import Derived.Test.YthdjghmipepppaaRows
import Derived.ProofKit
import Derived.WalkKit
import Derived.OpenShut
import Derived.Deep.Slices
import Derived.Deep.Fields
import Derived.Lib.SmallJoins
import Derived.SliceStrings
import Derived.SizedLaws
import Derived.BigQuiet
import Derived.Laws.AppendOwn
import Derived.Laws.AppendOwnNone
namespace Go.Proofs.Ythdjghmipepppaa
open Go.RowKit Go.Shelf
set_option linter.unusedVariables false
set_option linter.unusedSimpArgs false
attribute [local go_sem] Oper.semAt_some

/-- A row of items that the law holds. -/
structure IR (w : World) (P : Nat) (v : Value) (R : List It) (a : Option Addr) (c b : Nat) : Prop where
  v : v = .slice a R.length c
  a : 0 < R.length → a = some ⟨b, 0, none⟩
  lt : 0 < R.length → b < w.heap.size
  np : 0 < R.length → Np w b ∧ b ≠ P
  c0 : ∀ i x, R[i]? = some x → w.cell? ⟨b, i * 2, none⟩ = some (.string x.1)
  c1 : ∀ i x, R[i]? = some x → w.cell? ⟨b, i * 2 + 1, none⟩ = some (.string x.2)
theorem cI_at : ∀ (R : List It) (i : Nat) (x : It), R[i]? = some x → (cI R)[i * 2]? = some (.string x.1) ∧ (cI R)[i * 2 + 1]? = some (.string x.2)
  | [], i, x, h => by simp at h
  | y :: R, 0, x, h => by simp at h; subst h; exact ⟨rfl, rfl⟩
  | y :: R, i + 1, x, h => by
    have q := cI_at R i x (by simpa using h)
    have e : cI (y :: R) = .string y.1 :: .string y.2 :: cI R := rfl
    rw [e, show (i + 1) * 2 = i * 2 + 1 + 1 from by omega, show i * 2 + 1 + 1 + 1 = (i * 2 + 1) + 1 + 1 from rfl]
    simpa using q
theorem IR.of {w : World} {base P : Nat} {v : Value} {R : List It} (h : w.ownsRow base 61 2 v R.length (cI R)) (hP : P < base) : ∃ a c b, IR w P v R a c b := by
  rcases h.2 with ⟨h0, h1⟩ | ⟨g, cap, cur, hv, hb, hg, hn, hm, hs, ht⟩
  · have e : R = [] := List.eq_nil_of_length_eq_zero h1
    subst e
    exact ⟨none, 0, 0, h0, fun q => by simp at q, fun q => by simp at q, fun q => by simp at q, fun i x q => by simp at q, fun i x q => by simp at q⟩
  · have cell : ∀ (j : Nat) (u : Value), (cI R)[j]? = some u → w.cell? ⟨g, j, none⟩ = some u := fun j u hu => by
      have l := lt_of_some hu
      have l2 := h.1
      rw [← ht, List.getElem?_take_of_lt (by omega), Array.getElem?_toList] at hu
      simp [World.cell?, hg, hu]
    exact ⟨_, cap, g, hv, fun _ => rfl, fun _ => (Array.getElem?_eq_some_iff.1 hg).1, fun _ => ⟨fun cs f e => by rw [hg] at e; injection e with e; injection e with _ e2; exact absurd e2 (by decide), by omega⟩, fun i x q => cell _ _ (cI_at R i x q).1, fun i x q => cell _ _ (cI_at R i x q).2⟩
theorem IR.kp {w w' : World} {P : Nat} {v : Value} {R : List It} {a : Option Addr} {c b : Nat} (h : IR w P v R a c b) (k : Kp w w' P) : IR w' P v R a c b := by
  have kb : 0 < R.length → w'.heap[b]? = w.heap[b]? := fun q => k.block b (h.lt q) (h.np q).2 (h.np q).1
  have cc : ∀ j, 0 < R.length → w'.cell? ⟨b, j, none⟩ = w.cell? ⟨b, j, none⟩ := fun j q => World.cell?_of_block (w := w) (a := ⟨b, j, none⟩) (kb q)
  have pos : ∀ i x, R[i]? = some x → 0 < R.length := fun i x q => by have := lt_of_some q; omega
  exact ⟨h.v, h.a, fun q => Nat.lt_of_lt_of_le (h.lt q) k.size, fun q => ⟨fun cs f e => (h.np q).1 cs f (by rw [← kb q]; exact e), (h.np q).2⟩, fun i x q => (cc _ (pos i x q)).trans (h.c0 i x q), fun i x q => (cc _ (pos i x q)).trans (h.c1 i x q)⟩
theorem put_one (r : Nat) (k v : ByteArray) : putT r [] 0 k v = ([⟨true, [k], [v], []⟩], 1) := by
  unfold putT
  rw [if_pos rfl]
  rfl
theorem getL_one (k v : ByteArray) : getL [(k, v)] k = some v := by simp [getL]
theorem putL_nil (k v : ByteArray) : putL [] k v = [(k, v)] := by simp [putL]
/-- All of the first key. -/
theorem first_key (k v : ByteArray) (hk : 1 ≤ k.size ∧ k.size ≤ 40) (hv : v.size ≤ 400) : ∃ r f, Rt [⟨true, [k], [v], []⟩] 1 [(k, v)] r f ∧ r ≤ 14 ∧ pagesR r [⟨true, [k], [v], []⟩] 1 = [(1, 1)] ∧ (dropT r [⟨true, [k], [v], []⟩] 1 k).2 = 0 ∧ (dropT r [⟨true, [k], [v], []⟩] 1 k).1.length ≤ 100 := by
  obtain ⟨r, f, st, _⟩ := Stt.start.put (k := k) (v := v) (by omega) hk hv
  rw [put_one, putL_nil] at st
  simp only at st
  have dp := st.deep (by omega)
  obtain ⟨r', f', d, _, _, t, dt, tl⟩ := dropT_ok (k := k) st.rt ⟨(k, v), by simp, rfl⟩ (by simp) (by simp; omega)
  refine ⟨r, f, st.rt, dp, ?_, ?_, by rw [dt, List.length_append]; simp; omega⟩
  · have tr := st.rt.some (by simp)
    cases r with
    | zero => exact False.elim tr
    | succ r =>
      show (if (1 : Nat) = 0 then [] else pagesL (r + 1) 1 _ 1) = _
      rw [if_neg (by decide), pagesL_at (p := ⟨true, [k], [v], []⟩) rfl]
      rfl
  · rcases Nat.eq_zero_or_pos (dropT r [⟨true, [k], [v], []⟩] 1 k).2 with q | q
    · exact q
    · have ne := (d.some (by omega)).ne
      cases c : dropL [(k, v)] k with
      | nil => exact absurd c ne
      | cons x l =>
        have q := dropL_mem (L := [(k, v)]) (k := k) (x := x) (by rw [c]; simp)
        have q1 := q.1
        simp at q1
        exact absurd (by rw [q1]) q.2

def kA : ByteArray := ⟨#[97]⟩
def vA : ByteArray := ⟨#[49]⟩
set_option maxRecDepth 100000 in
set_option maxHeartbeats 16000000 in
theorem awake_any (W : World) : Calls Try.prog 9 #[] W fun e w' => e = .returned (.bool true) ∧ Below W.heap.size W w' := by
  obtain ⟨r, f, rt, hr, hp, hd, hd2⟩ := first_key kA vA (by decide) (by decide)
  have RT : Hid _ := rt
  have HP : Hid _ := hp
  have HD : Hid _ := hd
  have HD2 : Hid _ := hd2
  have b0 : Hid _ := allocB W (.cells #[.slice none 0 0, .int .i64 0, .int .i64 0] 26)
  have S0 : Hid _ := SH.new W
  have K1 : Hid _ := fun w (s : SH w W.heap.size [] 0 0) => putS W.heap.size [] 0 0 0 0 kA vA [] 0 w s (by omega) (by omega) (Or.inl rfl) ⟨fun _ => rfl, fun q => absurd rfl q⟩ (by decide) (by decide) (by simp) (by simp) (by omega)
  have K2 : Hid _ := fun w n (s : SH w W.heap.size [⟨true, [kA], [vA], []⟩] 0 n) (hn : n ≤ 100000) => findS W.heap.size _ n 1 r kA _ f w s (by omega) rt (by decide) (by simp) (by simp) (by omega)
  have K3 : Hid _ := fun w n (s : SH w W.heap.size [⟨true, [kA], [vA], []⟩] 0 n) (hn : n ≤ 100000) => rangeS W.heap.size _ n 1 r ByteArray.empty ByteArray.empty 9 _ f w s (by omega) rt (by simp) (by simp) (by omega)
  have K4 : Hid _ := fun w n (s : SH w W.heap.size [⟨true, [kA], [vA], []⟩] 0 n) (hn : n ≤ 100000) => pagesS W.heap.size _ n 1 r _ f w s (by omega) rt (by simp) (by simp) (by omega)
  have K5 : Hid _ := fun w n (s : SH w W.heap.size [⟨true, [kA], [vA], []⟩] 0 n) (hn : n ≤ 100000) => deepS W.heap.size _ n 1 r _ f w s (by omega) rt (by simp) (by simp) (by omega)
  have K6 : Hid _ := fun w n (s : SH w W.heap.size [⟨true, [kA], [vA], []⟩] 0 n) (hn : n ≤ 100000) => dropS W.heap.size _ 0 n 1 r kA _ f w s (by omega) (by omega) (Or.inl rfl) rt (by decide) (by simp) (by simp) (by omega)
  have K7 : Hid _ := fun w n sh (s : SH w W.heap.size sh 0 n) (hn : n ≤ 100000) (hs : sh.length ≤ 100000) => findS W.heap.size sh n 0 0 kA [] 0 w s (by omega) ⟨fun _ => rfl, fun q => absurd rfl q⟩ (by decide) (by simp) (by omega) (by omega)
  unfold ifP at K1 K2 K3 K4 K5 K6 K7
  clear rt hp hd hd2
  go_enter Try.func9, Try.ntmps9
  go_wp2_with fail
  refine Calls.mono (K1.out _ S0.out) ?_
  rintro e w1 (⟨n1, rfl, s1, kp1, _, l1, _⟩ | ⟨_, _, _, _, q⟩)
  case inr => exact absurd q (by omega)
  rw [put_one] at s1 ⊢
  simp only at s1
  have A1 : Hid _ := And.intro s1 (And.intro ((Kp.of_below b0.out W.heap.size).trans kp1) (by omega : n1 ≤ 100))
  clear s1 kp1 l1 K1
  go_wp2_with fail
  refine Calls.mono (K2.out w1 n1 A1.out.1 (by have := A1.out.2.2; omega)) ?_
  rintro e w2 ⟨n2, rfl, s2, kp2, _, l2⟩
  have A2 : Hid _ := And.intro s2 (And.intro (A1.out.2.1.trans kp2) (by have := A1.out.2.2; omega : n2 ≤ 200))
  rw [getL_one]
  clear s2 kp2 l2 K2
  go_wp2_with fail
  refine Calls.mono (K3.out w2 n2 A2.out.1 (by have := A2.out.2.2; omega)) ?_
  rintro e w3 ⟨v3, n3, rfl, o3, s3, kp3, _, l3⟩
  have A3 : Hid _ := And.intro s3 (And.intro (A2.out.2.1.trans kp3) (by have := A2.out.2.2; omega : n3 ≤ 3200))
  rw [rng_all] at o3
  have O3 : Hid (w3.ownsRow w2.heap.size 61 2 v3 1 [.string kA, .string vA]) := o3
  clear s3 kp3 l3 K3 o3
  go_wp2_with fail
  refine Calls.mono (K4.out w3 n3 A3.out.1 (by have := A3.out.2.2; omega)) ?_
  rintro e w4 ⟨v4, n4, rfl, o4, s4, kp4, _, l4⟩
  have A4 : Hid _ := And.intro s4 (And.intro (A3.out.2.1.trans kp4) (by have := A3.out.2.2; omega : n4 ≤ 6200))
  have KP4 : Hid _ := kp4
  have O4 : Hid _ := o4
  rw [HP.out] at O4
  clear s4 kp4 l4 K4 o4
  go_wp2_with fail
  refine Calls.mono (K5.out w4 n4 A4.out.1 (by have := A4.out.2.2; omega)) ?_
  rintro e w5 ⟨n5, rfl, s5, kp5, _, l5⟩
  have A5 : Hid _ := And.intro s5 (And.intro (A4.out.2.1.trans kp5) (by have := A4.out.2.2; omega : n5 ≤ 9200))
  have KP5 : Hid _ := KP4.out.trans kp5
  rw [HP.out]
  clear s5 kp5 l5 K5 KP4
  go_wp2_with fail
  refine Calls.mono (K6.out w5 n5 A5.out.1 (by have := A5.out.2.2; omega)) ?_
  rintro e w6 ⟨q6, _⟩
  rcases q6 ⟨(kA, vA), by simp, rfl⟩ with ⟨n6, rfl, s6, kp6, _, l6, _⟩ | ⟨_, _, _, _, q⟩
  case inr => exact absurd q (by omega)
  have A6 : Hid _ := And.intro s6 (And.intro (A5.out.2.1.trans kp6) (by have := A5.out.2.2; omega : n6 ≤ 9300))
  have KP6 : Hid _ := KP5.out.trans kp6
  rw [HD.out]
  clear q6 s6 kp6 l6 K6 KP5
  go_wp2_with fail
  refine Calls.mono (K7.out w6 n6 _ A6.out.1 (by have := A6.out.2.2; omega) (by have := HD2.out; omega)) ?_
  rintro e w7 ⟨n7, rfl, s7, kp7, _, l7⟩
  have g7 : getL [] kA = none := rfl
  rw [g7]
  simp only [Option.getD_none, Option.isSome_none]
  have KP7 : Hid _ := KP6.out.trans kp7
  have FIN : Hid (Below W.heap.size W w7) := by
    have q := A6.out.2.1.trans kp7
    exact ⟨q.os, q.tape, q.output, q.size, fun k hk => q.low k hk hk⟩
  clear s7 kp7 l7 K7 KP6
  obtain ⟨a3, c3, g3, I3'⟩ := IR.of (R := [(kA, vA)]) O3.out A2.out.1.lt
  have I3 := I3'.kp KP7.out
  have e3 := I3.v
  have a3' := I3.a (by simp)
  have d0 : w7.cell? ⟨g3, 0, none⟩ = some (.string kA) := I3.c0 0 _ rfl
  have d1 : w7.cell? ⟨g3, 0 + 1, none⟩ = some (.string vA) := I3.c1 0 _ rfl
  obtain ⟨a4, c4, e4⟩ : ∃ a c, v4 = .slice a 1 c := by
    rcases O4.out.2 with ⟨_, q⟩ | ⟨g, cap, cur, hv, _⟩
    · simp at q
    · exact ⟨_, _, hv⟩
  subst a3' e3 e4
  simp only [List.length_cons, List.length_nil, Nat.zero_add]
  have dm : dmax [(1, 1)] = 1 := rfl
  rw [dm]
  clear I3 I3' O3 O4 dm A1 A2 A3 A4 A5 A6 HP HD HD2 RT S0 KP7
  unfold kA at d0
  unfold vA at d1 ⊢
  go_wp2
  go_ret
  exact ⟨rfl, FIN.out⟩

end Go.Proofs.Ythdjghmipepppaa

namespace Go.Proofs.Ythdjghmipepppaa
theorem own : ownKnob Try.prog.godebug = none := by kernel_rfl
theorem laidOut : laidOutB Try.prog = true := by kernel_rfl
end Go.Proofs.Ythdjghmipepppaa

namespace Go.Proofs.Ythdjghmipepppaa
open Go.ChangeShapes Go.WideShapes Go.ChangeAt Go.RowKit Go.Deep
set_option linter.unusedVariables false
set_option linter.unusedSimpArgs false

/-- Element i's field j lies in the cell o + i * k + j, k the fields' number, and reads as its type says. -/
theorem open_slice_fields {P : Program} {H : Type} {enc : TypeId × Value → H} {W : World} {base fuel : Nat} {sp : Nat → Bool} {held : Bool} {t e : TypeId} {fs : Array Field} {a : Option Addr} {len cap : Nat} {x : DataW H × List MemPlace}
    (ht : P.underlying t = some (.slice e)) (hs : P.underlying e = some (.struct fs)) (hone : ∀ (i : Nat) (f : Field), fs[i]? = some f → f.offset = i ∧ P.cellsOf f.type = 1) (hC : P.cellsOf e = fs.size) (hpos : 0 < fs.size)
    (h : DataW.trod enc P W base sp held fuel t (Value.slice a len cap).cells.toList = some x) :
    len ≤ cap ∧ cap ≤ maxLen ∧ (a = none → cap = 0) ∧ ∃ b o, (0 < len → a = some ⟨b, o, none⟩) ∧ ∀ i, i < len → ∀ (j : Nat) (f : Field), fs[j]? = some f → ∃ V n y, W.cell? ⟨b, o + i * fs.size + j, none⟩ = some V ∧ DataW.trod enc P W base sp held n f.type [V] = some y := by
  rcases open_slice ht h with ⟨hcs, _⟩ | ⟨x, l, c, m, n, D, Pl, hcs, _, hl, hm, hmm, _, hx⟩
  · simp [Value.cells] at hcs
    obtain ⟨rfl, rfl, rfl⟩ := hcs
    exact ⟨Nat.le_refl _, Nat.zero_le _, fun _ => rfl, 0, 0, fun p => absurd p (Nat.lt_irrefl 0), fun i hi => absurd hi (Nat.not_lt_zero i)⟩
  · simp [Value.cells] at hcs
    obtain ⟨rfl, rfl, rfl⟩ := hcs
    have hlm : len ≤ m := by rw [hmm]; split <;> omega
    obtain ⟨b, o, spot⟩ := x
    have spotless : 0 < len → spot = none := fun p => by
      obtain ⟨cs', h1, _⟩ := hx 0 (by omega)
      obtain ⟨_, hlen, hcell⟩ := World.cells?_some h1
      rw [hC] at hlen hcell
      have h0 := hcell 0 hpos
      rw [List.getElem?_eq_getElem (by omega)] at h0
      simpa [Addr.add] using World.cell?_spot h0
    refine ⟨hl, hm, fun e => by simp at e, b, o, fun p => by rw [spotless p], fun i hi j f hj => ?_⟩
    obtain rfl := spotless (by omega)
    obtain ⟨cs', h1, h2⟩ := hx i (by omega)
    obtain ⟨_, hlen, hcell⟩ := World.cells?_some h1
    rw [hC] at hlen hcell
    obtain ⟨xs, n', _, _, _, hxl, hf⟩ := DataW.trod_struct hs h2
    have hlt : j < fs.size := (Array.getElem?_eq_some_iff.1 hj).1
    obtain ⟨ho, hc1⟩ := hone j f hj
    have g := hf j f hj
    rw [ho, hc1] at g
    rw [take1_drop cs' j undef (by omega)] at g
    refine ⟨cs'.getD j undef, n', xs.getD j (.nil, []), ?_, ?_⟩
    · have := hcell j hlt
      rw [add_add] at this
      rw [add_plain, List.getElem?_eq_getElem (by omega)] at this
      rw [Nat.add_assoc, this]
      simp [List.getD, List.getElem?_eq_getElem (show j < cs'.length by omega)]
    · rw [g]
      simp [List.getD, List.getElem?_eq_getElem (show j < xs.length by omega)]

end Go.Proofs.Ythdjghmipepppaa

namespace Go.Proofs.Ythdjghmipepppaa
open Go.ChangeShapes Go.WideShapes Go.ChangeAt Go.RowKit Go.Deep Go.Joins
set_option linter.unusedVariables false
set_option linter.unusedSimpArgs false
attribute [local go_sem] Oper.semAt_some

/-- A change. -/
structure Ac where
  key : ByteArray
  val : ByteArray
  drop : Bool
structure AcAt (w : World) (g o : Nat) (x : Ac) : Prop where
  c0 : w.cell? ⟨g, o, none⟩ = some (.string x.key)
  c1 : w.cell? ⟨g, o + 1, none⟩ = some (.string x.val)
  c2 : w.cell? ⟨g, o + 2, none⟩ = some (.bool x.drop)
structure Acts (w : World) (a : Option Addr) (len cap : Nat) (f : Nat → Ac) : Prop where
  fits : len ≤ cap
  max : cap ≤ maxLen
  at_ : ∃ g o, (0 < len → a = some ⟨g, o, none⟩) ∧ ∀ i, i < len → AcAt w g (o + i * 3) (f i)
theorem AcAt.kept {w w' : World} {g o : Nat} {x : Ac} (h : AcAt w g o x) (k : w'.heap[g]? = w.heap[g]?) : AcAt w' g o x :=
  ⟨(World.cell?_of_block (w := w) (a := ⟨g, o, none⟩) k).trans h.c0, (World.cell?_of_block (w := w) (a := ⟨g, o + 1, none⟩) k).trans h.c1, (World.cell?_of_block (w := w) (a := ⟨g, o + 2, none⟩) k).trans h.c2⟩
theorem Acts.low {w w' : World} {a : Option Addr} {len cap : Nat} {f : Nat → Ac} (h : Acts w a len cap f) (k : ∀ b, b < w.heap.size → w'.heap[b]? = w.heap[b]?) : Acts w' a len cap f := by
  obtain ⟨g, o, h1, h2⟩ := h.at_
  exact ⟨h.fits, h.max, g, o, h1, fun i hi => (h2 i hi).kept (k g (World.block_lt_of_cell? _ _ (h2 i hi).c0))⟩
theorem Acts.below {w w' : World} {a : Option Addr} {len cap : Nat} {f : Nat → Ac} (h : Acts w a len cap f) (b : Below w.heap.size w w') : Acts w' a len cap f := h.low b.block
theorem string_of {H : Type} {enc : TypeId × Value → H} {W : World} {base fuel : Nat} {sp : Nat → Bool} {held : Bool} {v : Value} {x : DataW H × List MemPlace}
    (h : DataW.trod enc Try.prog W base sp held fuel 9 [v] = some x) : ∃ s, v = .string s := by
  cases fuel with
  | zero => simp [DataW.trod] at h
  | succ n =>
    simp only [DataW.trod, Try.underlying9] at h
    cases v <;> simp at h
    exact ⟨_, rfl⟩
theorem bool_of {H : Type} {enc : TypeId × Value → H} {W : World} {base fuel : Nat} {sp : Nat → Bool} {held : Bool} {v : Value} {x : DataW H × List MemPlace}
    (h : DataW.trod enc Try.prog W base sp held fuel 4 [v] = some x) : ∃ b, v = .bool b := by
  cases fuel with
  | zero => simp [DataW.trod] at h
  | succ n =>
    simp only [DataW.trod, Try.underlying4] at h
    cases v <;> simp at h
    exact ⟨_, rfl⟩
theorem acts_of {H : Type} {enc : TypeId × Value → H} {W : World} {base fuel : Nat} {sp : Nat → Bool} {held : Bool} {a : Option Addr} {len cap : Nat} {x : DataW H × List MemPlace}
    (h : DataW.trod enc Try.prog W base sp held fuel 36 (Value.slice a len cap).cells.toList = some x) : ∃ f, Acts W a len cap f := by
  obtain ⟨h1, h2, h3, g, o, h4, h5⟩ := open_slice_fields Try.underlying36 Try.underlying46 (hone_of (by kernel_rfl)) (by kernel_rfl) (by decide) h
  have key : ∀ i, i < len → ∃ x : Ac, AcAt W g (o + i * 3) x := fun i hi => by
    obtain ⟨V0, n0, y0, e0, t0⟩ := h5 i hi 0 _ rfl
    obtain ⟨V1, n1, y1, e1, t1⟩ := h5 i hi 1 _ rfl
    obtain ⟨V2, n2, y2, e2, t2⟩ := h5 i hi 2 _ rfl
    obtain ⟨z0, rfl⟩ := string_of t0
    obtain ⟨z1, rfl⟩ := string_of t1
    obtain ⟨z2, rfl⟩ := bool_of t2
    exact ⟨⟨z0, z1, z2⟩, e0, e1, e2⟩
  refine ⟨fun i => if hi : i < len then Classical.choose (key i hi) else ⟨ByteArray.empty, ByteArray.empty, false⟩, h1, h2, g, o, h4, fun i hi => ?_⟩
  simp only [dif_pos hi]
  exact Classical.choose_spec (key i hi)

/-- A change that may be. -/
def okAc (x : Ac) : Prop := (1 ≤ x.key.size ∧ x.key.size ≤ 40) ∧ x.val.size ≤ 400
def SmP (w w' : World) (len : Nat) (f : Nat → Ac) (e : Ending) : Prop := ∃ b, e = .returned (.bool b) ∧ (b = true → len ≤ 120 ∧ ∀ i, i < len → okAc (f i)) ∧ Below w.heap.size w w'
set_option maxRecDepth 100000 in
set_option maxHeartbeats 4000000 in
theorem small_any (w : World) (a : Option Addr) (len cap : Nat) (f : Nat → Ac) (h : Acts w a len cap f) :
    Calls Try.prog 13 #[.slice a len cap] w fun e w' => SmP w w' len f e := by
  have H : Hid _ := h
  have mx := h.max
  have mf := h.fits
  unfold maxLen at mx
  clear h
  go_enter Try.func13, Try.ntmps13
  by_cases c0 : len ≤ 120
  case neg =>
    have c1 : (120 : Int) < (len : Int) := by omega
    go_wp2_with fail
    go_ret
    exact ⟨false, rfl, fun q => (by cases q), Below.refl _ _⟩
  have c1 : ¬ (120 : Int) < (len : Int) := by omega
  go_upto_region 4 with fail
  go_loopg [3] len (fun g iv wr => ∃ i : Nat, i ≤ len ∧ g = len - i ∧ iv = .int .i64 (i : Nat) ∧ wr = w ∧ Hid (∀ j, j < i → okAc (f j)))
  case atStart => exact ⟨0, by omega, rfl, rfl, rfl, fun j hj => by omega⟩
  case round =>
    obtain ⟨i, hi, rfl, rfl, rfl, R⟩ := hrel
    by_cases c : i < len
    · have c' : (i : Int) < (len : Int) := by omega
      obtain ⟨g, o, q1, q2⟩ := H.out.at_
      have ea := q1 (by omega)
      subst ea
      obtain ⟨d0, d1, d2⟩ := q2 i c
      have more : Hid (okAc (f i) → ∀ j, j < i + 1 → okAc (f j)) := fun q j hj => by
        rcases Nat.lt_or_ge j i with r | r
        · exact R.out j r
        · obtain rfl : j = i := by omega
          exact q
      have OK : Hid ((1 ≤ (f i).key.size ∧ (f i).key.size ≤ 40) → (f i).val.size ≤ 400 → okAc (f i)) := fun a b => ⟨a, b⟩
      clear q1 q2 R
      generalize (f i).key = k at *
      generalize (f i).val = v at *
      by_cases k1 : k.size < 1
      · have k1' : (k.size : Int) < 1 := by omega
        go_wp2_with fail
        go_ret
        exact ⟨false, rfl, fun q => (by cases q), Below.refl _ _⟩
      have k1' : ¬ (k.size : Int) < 1 := by omega
      by_cases k2 : 40 < k.size
      · have k2' : (40 : Int) < (k.size : Int) := by omega
        go_wp2_with fail
        go_ret
        exact ⟨false, rfl, fun q => (by cases q), Below.refl _ _⟩
      have k2' : ¬ (40 : Int) < (k.size : Int) := by omega
      by_cases k3 : 400 < v.size
      · have k3' : (400 : Int) < (v.size : Int) := by omega
        go_wp2_with fail
        go_ret
        exact ⟨false, rfl, fun q => (by cases q), Below.refl _ _⟩
      have k3' : ¬ (400 : Int) < (v.size : Int) := by omega
      have M2 : Hid _ := more.out (OK.out (by omega) (by omega))
      clear more OK
      go_wp2
      go_roundg (len - (i + 1))
      case measure => omega
      case rel => exact ⟨i + 1, by omega, rfl, by go_num, rfl, M2.out⟩
    · obtain rfl : len = i := by omega
      go_wp2
      go_ret
      exact ⟨true, rfl, fun _ => ⟨c0, R.out⟩, Below.refl _ _⟩
/-- The law's stores into its shelf. -/
theorem Shf.set1 {w : World} {P : Nat} {sl : Value} {vs : List V4} {sh : List Pg} {ill n : Nat} (h : Shf w P sl vs sh ill n) (m : Nat) : Shf (w.setCell ⟨P, 1, none⟩ (.int .i64 (m : Nat))) P sl vs sh m n ∧ w.grownBy (w.setCell ⟨P, 1, none⟩ (.int .i64 (m : Nat))) (some P) := by
  have g := grownBy_setCell w P 1 (.int .i64 (m : Nat))
  have ne : ∀ i : Nat, i ≠ 1 → (⟨P, 1, none⟩ : Addr) ≠ ⟨P, i, none⟩ := fun i h k => by injection k with _ k; exact h k.symm
  have G : Gw w (w.setCell ⟨P, 1, none⟩ (.int .i64 (m : Nat))) P none := Gw.of_grown g
  refine ⟨⟨?_, World.cell?_setCell_same _ _ _ h.c1, ?_, fun i hi => ?_, fun i => by simp [h.fz], h.own.kept g (Or.inr h.ne), h.len, fun i x p q1 q2 => (h.pv i x p q1 q2).gw (h.kp p (List.mem_of_getElem? q2)) G h.ntP (fun b hb => by cases hb), h.kp, h.ne, fun b hb => (h.nt b hb).kept (g.block b (h.own.lt b hb).2 (fun e => h.ne (by rw [hb, ← e])))⟩, g⟩
  · rw [World.cell?_setCell_other _ _ _ _ (ne 0 (by decide))]; exact h.c0
  · rw [World.cell?_setCell_other _ _ _ _ (ne 2 (by decide))]; exact h.c2
  · rw [World.cell?_setCell_other _ _ _ _ (ne i (by omega))]; exact h.past i hi
theorem Shf.set2 {w : World} {P : Nat} {sl : Value} {vs : List V4} {sh : List Pg} {ill n : Nat} (h : Shf w P sl vs sh ill n) (m : Nat) : Shf (w.setCell ⟨P, 2, none⟩ (.int .i64 (m : Nat))) P sl vs sh ill m ∧ w.grownBy (w.setCell ⟨P, 2, none⟩ (.int .i64 (m : Nat))) (some P) := by
  have g := grownBy_setCell w P 2 (.int .i64 (m : Nat))
  have ne : ∀ i : Nat, i ≠ 2 → (⟨P, 2, none⟩ : Addr) ≠ ⟨P, i, none⟩ := fun i h k => by injection k with _ k; exact h k.symm
  have G : Gw w (w.setCell ⟨P, 2, none⟩ (.int .i64 (m : Nat))) P none := Gw.of_grown g
  refine ⟨⟨?_, ?_, World.cell?_setCell_same _ _ _ h.c2, fun i hi => ?_, fun i => by simp [h.fz], h.own.kept g (Or.inr h.ne), h.len, fun i x p q1 q2 => (h.pv i x p q1 q2).gw (h.kp p (List.mem_of_getElem? q2)) G h.ntP (fun b hb => by cases hb), h.kp, h.ne, fun b hb => (h.nt b hb).kept (g.block b (h.own.lt b hb).2 (fun e => h.ne (by rw [hb, ← e])))⟩, g⟩
  · rw [World.cell?_setCell_other _ _ _ _ (ne 0 (by decide))]; exact h.c0
  · rw [World.cell?_setCell_other _ _ _ _ (ne 1 (by decide))]; exact h.c1
  · rw [World.cell?_setCell_other _ _ _ _ (ne i (by omega))]; exact h.past i hi
theorem Kp.grown {w w' : World} {P : Nat} (g : w.grownBy w' (some P)) : Kp w w' P :=
  ⟨g.os, g.tape, g.output, g.size, fun k h1 h2 => g.block k h2 (fun e => by have := Option.some.inj e; omega), fun k h1 h2 _ => g.block k h1 (fun e => h2 (Option.some.inj e))⟩

end Go.Proofs.Ythdjghmipepppaa

namespace Go.Proofs.Ythdjghmipepppaa
open Go.RowKit Go.Shelf
set_option linter.unusedVariables false
set_option linter.unusedSimpArgs false
attribute [local go_sem] Oper.semAt_some

theorem cI_len : ∀ R : List It, (cI R).length = R.length * 2
  | [] => rfl
  | x :: R => by
    have e : cI (x :: R) = .string x.1 :: .string x.2 :: cI R := rfl
    rw [e, List.length_cons, List.length_cons, cI_len R, List.length_cons]
    omega
theorem cI_one (R : List It) : ∀ u ∈ cI R, u.oneCell' = true := fun u hu => by
  unfold cI at hu
  obtain ⟨x, _, hx⟩ := List.mem_flatMap.1 hu
  simp [itC] at hx
  rcases hx with rfl | rfl <;> rfl
theorem wpList_append_items {w : World} {ops : Array Oper} {rest : List Oper} {o : Oper} {a : Act} {Q : Exit → Act → World → Prop} (hgd : o.guard = none) (s x : Operand)
    (ho : o.op = .call { callee := .builtin .append, args := #[s, x], argTypes := #[33, 33] }) (base : Nat) (v : Value) (A : List It) (hs : a.eval s = v) (hown : w.ownsRow base 61 2 v A.length (cI A))
    (base2 : Nat) (vc : Value) (C : List It) (hx : a.eval x = vc) (hc : w.ownsRow base2 61 2 vc C.length (cI C)) (hl : A.length + C.length ≤ 1000000) (hbase : base ≤ w.heap.size)
    (h : ∀ v' w', w'.ownsRow base 61 2 v' (A ++ C).length (cI (A ++ C)) → w.grownBy w' v.ownBlock → wpList Try.prog ops Q rest (a.put o.dst v') w') : wpList Try.prog ops Q (o :: rest) a w := by
  obtain ⟨i0, hi, hz0, hz1, hz2⟩ := info_parts itemInfo
  rcases hc.2 with ⟨h0, h1⟩ | ⟨g, cap, cur, hv, hb, hg, hn, hm, hcs, ht⟩
  · have e : C = [] := List.eq_nil_of_length_eq_zero h1
    subst e
    rw [h0] at hx
    exact wpList_append_own_none hgd s x 33 ho base 61 i0 2 Try.underlying33 hi v _ _ hs hown hx (h v w (by simpa using hown) (World.grownBy.refl w _))
  · rw [hv] at hx
    refine wpList_append_own w hgd s x 33 ho base 61 i0 _ 2 32 Try.underlying33 hi hz0 hz1 hz2 rfl (by decide) v A.length (cI A) hs hown ⟨g, 0, none⟩ C.length cap (cI C) hx (cI_len C) (fun j u hu => ?_) (cI_one C) (by unfold maxLen; omega) (by omega) hbase (fun v' w' h2 h3 _ => ?_)
    · have l := lt_of_some hu
      have l2 := hc.1
      rw [← ht, List.getElem?_take_of_lt (by omega)] at hu
      exact World.news_of_block hg j u hu
    · refine h v' w' ?_ h3
      rw [List.length_append, cI_app]
      exact h2
/-- A row of items through what the calls change. -/
theorem ownsI_kp {w w' : World} {P base : Nat} {v : Value} {n : Nat} {xs : List Value} (h : w.ownsRow base 61 2 v n xs) (k : Kp w w' P) (hP : P < base) : w'.ownsRow base 61 2 v n xs := by
  refine ⟨h.1, ?_⟩
  rcases h.2 with hn | ⟨g, cap, cur, hv, hg, hb, rest⟩
  · exact .inl hn
  · refine .inr ⟨g, cap, cur, hv, hg, ?_, rest⟩
    rw [k.block g (Array.getElem?_eq_some_iff.1 hb).1 (by omega) (fun cs f e => by rw [hb] at e; injection e with e; injection e with _ e2; exact absurd e2 (by decide))]
    exact hb
theorem ownsI_grown {w w' : World} {base : Nat} {o : Option Nat} {v : Value} {n : Nat} {xs : List Value} (h : w.ownsRow base 61 2 v n xs) (k : w.grownBy w' o) (ho : ∀ g, v.ownBlock = some g → o ≠ some g) : w'.ownsRow base 61 2 v n xs :=
  ownsRow_kept h (fun g q => k.block g (h.lt g q).2 (fun e => ho g q e.symm))
/-- What a row of items reads. -/
structure IR2 (w : World) (v : Value) (R : List It) (a : Option Addr) (c b : Nat) : Prop where
  v : v = .slice a R.length c
  a : 0 < R.length → a = some ⟨b, 0, none⟩
  c0 : ∀ i x, R[i]? = some x → w.cell? ⟨b, i * 2, none⟩ = some (.string x.1)
  c1 : ∀ i x, R[i]? = some x → w.cell? ⟨b, i * 2 + 1, none⟩ = some (.string x.2)
theorem IR2.of {w : World} {base : Nat} {v : Value} {R : List It} (h : w.ownsRow base 61 2 v R.length (cI R)) : ∃ a c b, IR2 w v R a c b := by
  rcases h.2 with ⟨h0, h1⟩ | ⟨g, cap, cur, hv, hb, hg, hn, hm, hs, ht⟩
  · have e : R = [] := List.eq_nil_of_length_eq_zero h1
    subst e
    exact ⟨none, 0, 0, h0, fun q => by simp at q, fun i x q => by simp at q, fun i x q => by simp at q⟩
  · have cell : ∀ (j : Nat) (u : Value), (cI R)[j]? = some u → w.cell? ⟨g, j, none⟩ = some u := fun j u hu => by
      have l := lt_of_some hu
      have l2 := h.1
      rw [← ht, List.getElem?_take_of_lt (by omega), Array.getElem?_toList] at hu
      simp [World.cell?, hg, hu]
    exact ⟨_, cap, g, hv, fun _ => rfl, fun i x q => cell _ _ (cI_at R i x q).1, fun i x q => cell _ _ (cI_at R i x q).2⟩
theorem rng_len (L : List It) (a b : ByteArray) : (rng L a b).length ≤ L.length := List.length_filter_le _ _
theorem rng_take {L : List It} {a b : ByteArray} {m : Nat} (h : L.length ≤ m) : (rng L a b).take m = rng L a b := List.take_of_length_le (Nat.le_trans (rng_len L a b) h)
theorem kp_end {W w1 w2 wd : World} {P : Nat} (hP : w1.heap.size = P) (B1 : Below W.heap.size W w1) (b2 : Below P w1 w2) (q : Kp w2 wd P) : Below W.heap.size W wd := by
  have s1 := B1.size
  have s2 := b2.size
  exact ⟨q.os.trans (b2.os.trans B1.os), q.tape.trans (b2.tape.trans B1.tape), q.output.trans (b2.output.trans B1.output), Nat.le_trans B1.size (Nat.le_trans b2.size q.size), fun k hk => (q.low k (by omega) (by omega)).trans ((b2.block k (by omega)).trans (B1.block k hk))⟩

end Go.Proofs.Ythdjghmipepppaa

