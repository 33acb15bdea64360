/- Decode, all of it; what the reference's Decode keeps. -/
import Derived.Test.YtfedcghkohfhlaaV3
import Derived.Test.YtfedcghkohfhlaaV4
import Derived.Test.YtfedcghkohfhlaaR3
import Derived.Test.YtfedcghkohfhlaaT1
namespace Go.Proofs.Ytfedcghkohfhlaa
open Go.RowKit
set_option linter.unusedVariables false
set_option linter.unusedSimpArgs false

theorem Decode_any (a : Option Addr) (n cap : Nat) (bs : List Int) (w : World) (h : By w a n cap bs) (hn : n ≤ 80000) :
    Calls Try.prog 10 #[.slice a n cap] w fun e w' => DecP w w' e (dcd bs) := by
  cases bs with
  | nil => exact Decode_none a n cap [] w h hn (Or.inl rfl)
  | cons c r =>
    by_cases c1 : c = 76
    · subst c1; exact Decode_leaf a n cap r w h hn
    · by_cases c2 : c = 66
      · subst c2; exact Decode_branch a n cap r w h hn
      · exact Decode_none a n cap (c :: r) w h hn (Or.inr ⟨c, r, rfl, c1, c2⟩)

/-- What is known while the reference reads items. -/
structure RJ (T : Option (List ByteArray × List ByteArray × List Int)) (lf : Bool) (L i m : Nat) (bad : Bool) (bs : List Int) (ks vs : List ByteArray) : Prop where
  no : bad = true → T = none ∧ bs = []
  yes : bad = false → T = (rdI lf m bs).map fun x => (ks ++ x.1, vs ++ x.2.1, x.2.2)
  cnt : ks.length = i
  len : tot ks + tot vs + bs.length ≤ L
  even : lf = true → vs.length = ks.length
  odd : lf = false → vs = []
  bys : Bys bs
theorem RJ.start (lf : Bool) {r : List Int} (hb : Bys r) : RJ (rdH lf r) lf r.length 0 (rU r) (rB r) (rR r) [] [] := by
  have s := RI.start lf hb
  refine ⟨s.no, s.yes, rfl, ?_, fun _ => rfl, fun _ => rfl, s.bys⟩
  have := rR_len r; simp [tot]; omega
theorem tnil : tU ([] : List Int) = [] ∧ tR ([] : List Int) = [] := ⟨rfl, rfl⟩
theorem tlen {bs : List Int} (hb : Bys bs) : (tU bs).length + (tR bs).length ≤ bs.length := by
  cases c : tB bs with
  | true => rw [(tB_nil c).1, (tB_nil c).2]; simp
  | false => have := tR_lt hb c; omega
theorem RJ.leaf {T : Option (List ByteArray × List ByteArray × List Int)} {L i m : Nat} {bad : Bool} {bs : List Int} {ks vs : List ByteArray} (h : RJ T true L i (m + 1) bad bs ks vs) :
    RJ T true L (i + 1) m (bad || tB bs || tB (tR bs)) (tR (tR bs)) (ks ++ [strOfNums (tU bs)]) (vs ++ [strOfNums (tU (tR bs))]) := by
  have hev := h.even rfl
  have hl := h.len
  have k1 := tlen h.bys
  have k2 := tlen (tR_bys h.bys)
  refine ⟨fun hb => ?_, fun hb => ?_, by simp [h.cnt], ?_, fun _ => by simp [hev], fun e => (by cases e), tR_bys (tR_bys h.bys)⟩
  · cases bad with
    | true =>
      refine ⟨(h.no rfl).1, ?_⟩
      rw [(h.no rfl).2]
      rfl
    | false =>
      have hy := h.yes rfl
      rw [hy]
      cases c1 : tB bs with
      | true =>
        refine ⟨by simp [rdI, c1], ?_⟩
        rw [(tB_nil c1).2]
        rfl
      | false =>
        rw [c1, Bool.false_or, Bool.false_or] at hb
        exact ⟨by simp [rdI, c1, hb], (tB_nil hb).2⟩
  · simp only [Bool.or_eq_false_iff] at hb
    rw [h.yes hb.1.1]
    simp only [rdI, hb.1.2, hb.2, Bool.false_eq_true, if_false, if_true, map_map]
    simp
  · simp only [tot_app, tot, str_size]
    omega
theorem RJ.branch {T : Option (List ByteArray × List ByteArray × List Int)} {L i m : Nat} {bad : Bool} {bs : List Int} {ks vs : List ByteArray} (h : RJ T false L i (m + 1) bad bs ks vs) :
    RJ T false L (i + 1) m (bad || tB bs) (tR bs) (ks ++ [strOfNums (tU bs)]) vs := by
  have hl := h.len
  have k1 := tlen h.bys
  refine ⟨fun hb => ?_, fun hb => ?_, by simp [h.cnt], ?_, fun e => (by cases e), h.odd, tR_bys h.bys⟩
  · cases bad with
    | true =>
      refine ⟨(h.no rfl).1, ?_⟩
      rw [(h.no rfl).2]
      rfl
    | false =>
      rw [h.yes rfl]
      rw [Bool.false_or] at hb
      exact ⟨by simp [rdI, hb], (tB_nil hb).2⟩
  · simp only [Bool.or_eq_false_iff] at hb
    rw [h.yes hb.1]
    simp only [rdI, hb.2, Bool.false_eq_true, if_false, map_map]
    simp
  · simp only [tot_app, tot, str_size]
    omega
theorem RJ.done {T : Option (List ByteArray × List ByteArray × List Int)} {lf : Bool} {L i : Nat} {bs : List Int} {ks vs : List ByteArray} (h : RJ T lf L i 0 false bs ks vs) : T = some (ks, vs, bs) := by
  rw [h.yes rfl]; simp [rdI]

/-- What the reference's Decode answers. -/
structure KecP (w w' : World) (e : Ending) (o : Option Pg) : Prop where
  no : o = none → e = .returned (.tuple #[.agg #[.bool false, .slice none 0 0, .slice none 0 0, .slice none 0 0], .bool false])
  yes : ∀ p, o = some p → ∃ v, e = .returned (.tuple #[v, .bool true]) ∧ Pv w' v p
  bel : Below w.heap.size w w'
theorem KecP.mk0 {w w' : World} {e : Ending} {o : Option Pg} (h : o = none) (he : e = .returned (.tuple #[.agg #[.bool false, .slice none 0 0, .slice none 0 0, .slice none 0 0], .bool false])) (b : Below w.heap.size w w') : KecP w w' e o :=
  ⟨fun _ => he, fun p hp => (by rw [h] at hp; cases hp), b⟩
theorem KecP.mk1 {w w' : World} {e : Ending} {o : Option Pg} {p : Pg} {v : Value} (h : o = some p) (he : e = .returned (.tuple #[v, .bool true])) (q : Pv w' v p) (b : Below w.heap.size w w') : KecP w w' e o :=
  ⟨fun h' => (by rw [h] at h'; cases h'), fun p' hp => (by rw [h] at hp; injection hp with hp; subst hp; exact ⟨v, he, q⟩), b⟩
theorem rd_new3 {w w1 : World} {a : Option Addr} {cap : Nat} {bs : List Int} (t : TypeId) (h0 : 0 < w.heap.size) (hb : By w1 a bs.length cap bs) (hs : ∀ x, a = some x → w.heap.size ≤ x.block ∧ x.block < w1.heap.size) (hh : a = none ∨ ∃ g, a = some ⟨g, 0, none⟩) (bl : Below w.heap.size w w1) :
    ∃ q, Rd (w1.alloc (.cells #[.slice a bs.length cap, .bool false] t)) w1.heap.size q false bs ∧ q < w1.heap.size ∧ (q = 0 ∨ w.heap.size ≤ q) := by
  have hw := bl.size
  have B := hb.below (allocB w1 (.cells #[.slice a bs.length cap, .bool false] t))
  rcases hh with rfl | ⟨g, rfl⟩
  · exact ⟨0, ⟨⟨_, _, _, by simp, B, Or.inl rfl⟩, by simp, fun o => by simp, by omega⟩, by omega, Or.inl rfl⟩
  · have := (hs _ rfl).2
    have k := (hs _ rfl).1
    exact ⟨g, ⟨⟨_, _, _, by simp, B, Or.inr ⟨0, rfl⟩⟩, by simp, fun o => by simp, by simp at this; omega⟩, by simpa using this, Or.inr (by simpa using k)⟩

set_option maxRecDepth 100000 in
set_option maxHeartbeats 4000000 in
theorem kDecode_none (a : Option Addr) (n cap : Nat) (bs : List Int) (w : World) (h : By w a n cap bs) (hn : n ≤ 80000) (hd : bs = [] ∨ ∃ c r, bs = c :: r ∧ c ≠ 76 ∧ c ≠ 66) :
    Calls Try.prog 20 #[.slice a n cap] w fun e w' => KecP w w' e (dcd bs) := by
  have hl := h.len
  rcases hd with rfl | ⟨c, r, rfl, c1, c2⟩
  · obtain rfl : n = 0 := by simpa using hl.symm
    have D : Hid (dcd [] = none) := rfl
    clear h
    go_enter Try.func20, Try.ntmps20
    go_wp2
    exact bodyPost_ret (v := .tuple #[.agg #[.bool false, .slice none 0 0, .slice none 0 0, .slice none 0 0], .bool false]) (by simp [results, Try.results20, go_sem]) rfl (KecP.mk0 D.out rfl (allocB w _))
  · have n0 : 0 < n := by simp at hl; omega
    obtain ⟨b, o, h1, h2⟩ := h.cell
    obtain rfl := h1 n0
    have e1 := h2 0 n0
    simp only [List.getD_cons_zero, Nat.add_zero] at e1
    have D : Hid (dcd (c :: r) = none) := dcd_no c1 c2
    have n0' : ((n : Int) == 0) = false := beq_eq_false_iff_ne.2 (by omega)
    have n1' : (0 : Int) < (n : Int) := by omega
    have q1 : (c != 76) = true := by simpa using c1
    have q2 : (c != 66) = true := by simpa using c2
    have hf := h.fits
    have bl : b < w.heap.size := World.block_lt_of_cell? _ _ e1
    clear h h1 h2 hl
    go_enter Try.func20, Try.ntmps20
    go_wp2
    exact bodyPost_ret (v := .tuple #[.agg #[.bool false, .slice none 0 0, .slice none 0 0, .slice none 0 0], .bool false]) (by simp [results, Try.results20, go_sem]) rfl (KecP.mk0 D.out rfl (allocB w _))

end Go.Proofs.Ytfedcghkohfhlaa
