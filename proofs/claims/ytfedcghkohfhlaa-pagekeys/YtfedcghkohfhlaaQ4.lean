/- The walks over package page: Encode, Bytes. -/
import Derived.Test.YtfedcghkohfhlaaQ3
namespace Go.Proofs.Ytfedcghkohfhlaa
open Go.RowKit
set_option linter.unusedVariables false
set_option linter.unusedSimpArgs false

/-- Four cells of a block. -/
structure B4 (w : World) (b : Nat) (c0 c1 c2 c3 : Value) : Prop where
  a0 : w.cell? ⟨b, 0, none⟩ = some c0
  a1 : w.cell? ⟨b, 1, none⟩ = some c1
  a2 : w.cell? ⟨b, 2, none⟩ = some c2
  a3 : w.cell? ⟨b, 3, none⟩ = some c3
theorem B4.new (w : World) (c0 c1 c2 c3 : Value) (t : TypeId) : B4 (w.alloc (.cells #[c0, c1, c2, c3] t)) w.heap.size c0 c1 c2 c3 :=
  ⟨by simp, by simp, by simp, by simp⟩
theorem B4.lt {w : World} {b : Nat} {c0 c1 c2 c3 : Value} (h : B4 w b c0 c1 c2 c3) : b < w.heap.size := World.block_lt_of_cell? _ _ h.a0
theorem B4.kept {w w' : World} {b : Nat} {c0 c1 c2 c3 : Value} (h : B4 w b c0 c1 c2 c3) (e : w'.heap[b]? = w.heap[b]?) : B4 w' b c0 c1 c2 c3 :=
  ⟨(World.cell?_of_block (w := w) (a := ⟨b, 0, none⟩) e).trans h.a0, (World.cell?_of_block (w := w) (a := ⟨b, 1, none⟩) e).trans h.a1, (World.cell?_of_block (w := w) (a := ⟨b, 2, none⟩) e).trans h.a2, (World.cell?_of_block (w := w) (a := ⟨b, 3, none⟩) e).trans h.a3⟩
theorem B4.below {w w' : World} {b : Nat} {c0 c1 c2 c3 : Value} (h : B4 w b c0 c1 c2 c3) (hb : Below w.heap.size w w') : B4 w' b c0 c1 c2 c3 := h.kept (hb.block b h.lt)
theorem B4.grown {w w' : World} {b : Nat} {c0 c1 c2 c3 : Value} {row : Option Nat} (h : B4 w b c0 c1 c2 c3) (hg : w.grownBy w' row) (hne : some b ≠ row) : B4 w' b c0 c1 c2 c3 := h.kept (hg.block b h.lt hne)

/-- What stands in memory while bytes are gathered. -/
structure EI (w : World) (base bb : Nat) (c0 c1 c2 c3 : Value) (ka : Option Addr) (kn kc : Nat) (ks : List Value) (xa : Option Addr) (xn xc : Nat) (xs : List Value) (bv : Value) (acc : List Int) (wr : World) : Prop where
  own : Own wr base bv acc
  box : B4 wr bb c0 c1 c2 c3
  key : Sl wr ka kn kc ks
  oth : Sl wr xa xn xc xs
  low : ∀ x, 0 < kn → ka = some x → x.block < base
  ap : ∀ g x, bv.ownBlock = some g → 0 < xn → xa = some x → x.block ≠ g
  bbl : bb < base
  wb : w.heap.size ≤ base
  bel : Below w.heap.size w wr
  bas : base ≤ wr.heap.size
theorem EI.step {w : World} {base bb : Nat} {c0 c1 c2 c3 : Value} {ka : Option Addr} {kn kc : Nat} {ks : List Value} {xa : Option Addr} {xn xc : Nat} {xs : List Value} {bv : Value} {acc : List Int} {wr w2 w3 : World} {v3 : Value} {it : List Int}
    (h : EI w base bb c0 c1 c2 c3 ka kn kc ks xa xn xc xs bv acc wr) (b2 : Below wr.heap.size wr w2) (o3 : Own w3 base v3 (acc ++ it)) (g3 : w2.grownBy w3 bv.ownBlock) (l3 : Lies w2 bv v3) :
    EI w base bb c0 c1 c2 c3 ka kn kc ks xa xn xc xs v3 (acc ++ it) w3 := by
  have s2 := b2.size
  have s3 := g3.size
  have hb := h.bas
  refine ⟨o3, (h.box.below b2).grown g3 ?_, (h.key.below b2).grown g3 ?_, (h.oth.below b2).grown g3 ?_, h.low, ?_, h.bbl, h.wb, ?_, by omega⟩
  · intro e
    have := (h.own.lt bb e.symm).1
    have := h.bbl
    omega
  · intro p x hx e
    have := (h.own.lt _ e.symm).1
    have := h.low x p hx
    omega
  · intro p x hx e
    exact h.ap _ x e.symm p hx rfl
  · intro g x hg p hx e
    subst e
    exact l3.ne (Nat.lt_of_lt_of_le (h.oth.old p x hx) s2) (fun e => h.ap _ x e p hx rfl) hg
  · exact (nextB h.bel b2).grown g3 (Nat.le_trans h.bel.size s2) (fun k hk => Nat.le_trans h.wb (h.own.lt k hk).1)

set_option maxRecDepth 100000 in
set_option maxHeartbeats 4000000 in
theorem Encode_leaf (v : Value) (p : Pg) (w : World) (h : Pv w v p) (f : Fit p) (hl : p.leaf = true) :
    Calls Try.prog 16 #[v] w fun e w' => New w w' e (encP p) := by
  rw [encP_leaf hl]
  have VA : Hid _ := values_any v p
  obtain ⟨ka, kn, kc, va, vn, vc, ia, im, ic, rfl, h1, h2, h3⟩ := h.ex
  obtain ⟨lf, ks, vs, is⟩ := p
  simp only at h1 h2 h3 hl VA
  subst hl
  have l1 := h1.slen
  have l2 := h2.slen
  have b1 := f.keys
  have b2 := f.tk
  have b3 := f.tv
  have ev := f.even rfl
  simp only at b1 b2 b3 ev
  have LE := encI_le ks vs (by omega) (by omega)
  have n1 : kn ≤ 2000 := by omega
  have n1' : (kn : Int) ≤ 2000 := by omega
  have H : Hid _ := h
  have F : Hid _ := f
  simp only
  rw [l1]
  have HK : Hid _ := h1
  clear h h2 h3 f h1
  go_enter Try.func16, Try.ntmps16
  go_wp2_with (go_at_call 39; refine Calls.mono (head_any true kn _ (by omega)) ?_; rintro e w1 ⟨⟨v1, rfl, o1⟩, bl1⟩; obtain ⟨x0, x1, x2, x3⟩ := (B4.new w (.bool true) (.slice ka kn kc) (.slice va vn vc) (.slice ia im ic) 26).below bl1)
  refine Calls.mono (VA.out w1 (H.out.below (nextB (allocB w _) bl1)) F.out (by simp)) ?_
  rintro e w2 ⟨⟨v2, rfl, o2⟩, bl2⟩
  obtain ⟨ya, yc, rfl, s2, z2, yh⟩ := o2.sl
  have evl : vs.length = kn := by omega
  rw [sv_len, evl] at s2
  rw [sv_len, evl]
  have X0 : Hid _ := And.intro x0 (And.intro x1 (And.intro x2 x3))
  have O1 : Hid _ := And.intro o1 bl1
  have O2 : Hid _ := And.intro o2 (And.intro bl2 (And.intro s2 (And.intro z2 yh)))
  clear x0 x1 x2 x3 o1 bl1 o2 bl2 s2 z2 yh
  go_wp2_with fail
  obtain ⟨x0, x1, x2, x3⟩ := X0.out
  obtain ⟨o1, bl1⟩ := O1.out
  obtain ⟨o2, bl2, s2, z2, yh⟩ := O2.out
  have z1 : w1.heap.size ≤ w2.heap.size := bl2.size
  have EI0 : Hid (EI w (w.heap.size + 1) w.heap.size (.bool true) (.slice ka kn kc) (.slice va vn vc) (.slice ia im ic) ka kn kc (sv ks) ya kn yc (sv vs) v1 (encH true kn ++ encI (ks.take 0) (vs.take 0)) w2) := by
    have s0 := bl1.size
    simp only [World.size_alloc] at s0
    refine ⟨?_, (B4.mk x0 x1 x2 x3).below bl2, HK.out.below (nextB (nextB (allocB w _) bl1) bl2), s2, fun x p hx => ?_, fun g x hg p hx e => ?_, by omega, by omega, nextB (nextB (allocB w _) bl1) bl2, by omega⟩
    · have := o1.below bl2
      simp only [World.size_alloc] at this
      simpa [encI] using this
    · have := HK.out.old p x hx
      omega
    · have a1 := (z2 x hx).1
      have a2 := (o1.lt g hg).2
      omega
  have evh : Hid _ := And.intro evl (And.intro ev l1)
  clear x0 x1 x2 x3 o1 bl1 o2 bl2 s2 z2 VA H F HK evl ev l1
  have B1 : w.heap.size < w2.heap.size := by have := EI0.out.bas; omega
  go_loopg [3, 21] kn (fun g bv iv wr => ∃ k : Nat, k ≤ kn ∧ g = kn - k ∧ iv = .int .i64 (k : Nat) ∧ Hid (EI w (w.heap.size + 1) w.heap.size (.bool true) (.slice ka kn kc) (.slice va vn vc) (.slice ia im ic) ka kn kc (sv ks) ya kn yc (sv vs) bv (encH true kn ++ encI (ks.take k) (vs.take k)) wr))
  case atStart => exact ⟨0, Nat.zero_le _, rfl, rfl, EI0.out⟩
  case round =>
    obtain ⟨k, hk, rfl, rfl, hE⟩ := hrel
    by_cases c : k < kn
    · have c' : (k : Int) < (kn : Int) := by omega
      obtain ⟨b, o, rfl, _⟩ := hE.out.key.at (by omega)
      obtain ⟨b', o', rfl, _⟩ := hE.out.oth.at (by omega)
      have e1 := hE.out.key.str c
      have e2 := hE.out.oth.str c
      have x1 := hE.out.box.a1
      have K : Hid _ := item_any (kAt ks k) (kAt vs k) wr (Nat.le_trans (kAt_le (ss := ks) k) (by omega)) (Nat.le_trans (kAt_le (ss := vs) k) (by omega))
      have SN : Hid _ := encI_snoc (ks := ks) (vs := vs) (k := k) (by have := evh.out; omega) (by have := evh.out; omega)
      have L2 : Hid ((encH true kn ++ encI (ks.take k) (vs.take k)).length ≤ 80000 ∧ (encS (kAt ks k) ++ encS (kAt vs k)).length ≤ 80000) := by
        have t1 := tot_take_le ks k
        have t2 := tot_take_le vs k
        have t3 := encI_le (ks.take k) (vs.take k) (by omega) (by omega)
        have t4 := enc_len10 (u := kn) (by omega)
        have t5 : (ks.take k).length ≤ k := by simp; omega
        have t6 := encS_le (kAt ks k) (Nat.le_trans (kAt_le (ss := ks) k) (by omega))
        have t7 := encS_le (kAt vs k) (Nat.le_trans (kAt_le (ss := vs) k) (by omega))
        have t8 := kAt_le (ss := ks) k
        have t9 := kAt_le (ss := vs) k
        show _ ∧ _
        rw [List.length_append, List.length_append]
        unfold encH
        rw [List.length_cons]
        omega
      have e1' : wr.cell? ⟨b, o + k, none⟩ = some (.string (kAt ks k)) := e1
      have e2' : wr.cell? ⟨b', o' + k, none⟩ = some (.string (kAt vs k)) := e2
      clear e1 e2
      generalize kAt ks k = s at *
      generalize kAt vs k = t at *
      generalize encS s ++ encS t = it at *
      go_wp2_with (first | (go_at_call 41; refine Calls.mono K.out ?_; rintro e w3 ⟨⟨v3, rfl, o3⟩, bl3⟩; obtain ⟨a3, cap3, rfl, y3, s3, hh3⟩ := o3.by) | (at_builtin; refine wpList_append_ba rfl (.tmp 26) (.tmp 33) rfl (w.heap.size + 1) _ (encH true kn ++ encI (ks.take k) (vs.take k)) rfl (hE.out.own.below bl3) a3 _ cap3 it rfl y3 (by have := L2.out; omega) (Nat.le_trans hE.out.bas bl3.size) ?_; intro v4 w4 o4 g4 l4))
      go_roundg (kn - (k + 1))
      case measure => omega
      case rel =>
        refine ⟨k + 1, by omega, rfl, by go_num, ?_⟩
        rw [SN.out, ← List.append_assoc]
        exact hE.out.step bl3 o4 g4 l4
    · obtain rfl : kn = k := by omega
      have L : Hid (encI (ks.take kn) (vs.take kn) = encI ks vs) := by show _ = _; rw [List.take_of_length_le (by have := evh.out; omega), List.take_of_length_le (by have := evh.out; omega)]
      go_wp2
      go_ret
      have O := hE.out.own
      rw [L.out] at O
      exact ⟨⟨_, rfl, O.mono (by omega)⟩, hE.out.bel⟩

end Go.Proofs.Ytfedcghkohfhlaa
